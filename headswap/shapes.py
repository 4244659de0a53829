"""The shapes of last forms: what of them is told neither by numbers of knots and arcs nor by where gates stand."""


class Shape:
    """A part of a last form that hangs together, gone through from one of its knots on.

    Knots stand in the order in which they are met, going from each by its ways in a set order. The code tells to which
    one each way leads, and by how many gates more or fewer than it took to meet both: gates that are moved through a
    knot change none of this.
    """

    def __init__(self, course, begin):
        self.met = {begin: 0}
        self.line_up = [begin]
        at = 0
        # What is met stands behind what was met: so the line grows while it is gone through.
        while at < len(self.line_up):
            for arc in arcs_at(course, self.line_up[at]):
                self.meet(course.net.lines[arc])
            at += 1
        places = {knot: place for place, knot in enumerate(self.line_up)}
        self.code = " ".join([self.told_of(course, places, knot) for knot in self.line_up])

    def meet(self, line):
        """Meet the knots where an arc begins and ends, one of which was met."""
        (begin, way), (end, into), many = line
        if end not in self.met:
            self.met[end] = self.met[begin] + many
            self.line_up.append(end)
        if begin not in self.met:
            self.met[begin] = self.met[end] - many
            self.line_up.append(begin)

    def told_of(self, course, places, knot):
        """Tell the kind of a knot and where its ways out lead."""
        told = course.net.points[knot]
        for way in ways_out(course.net, knot):
            begin, (end, into), many = course.net.lines[course.outgoing[(knot, way)]]
            told += f",{places[end]}.{into}.{many + self.met[knot] - self.met[end]}"
        return told


def ways_out(net, knot):
    """Tell the ways out of a knot."""
    return (0, 1) if net.points[knot] == "cut" else (0,)


def ways_in(net, knot):
    """Tell the ways into a knot."""
    return (0,) if net.points[knot] == "cut" else (0, 1)


def arcs_at(course, knot):
    """Tell the arcs of a knot, ways in first."""
    inward = [course.incoming[(knot, way)] for way in ways_in(course.net, knot)]
    return inward + [course.outgoing[(knot, way)] for way in ways_out(course.net, knot)]


def shapes_of(course):
    """Tell the shapes of a last form's parts but for its loops, by their codes, each from where its code is least."""
    told = []
    left = sorted(course.net.points)
    while left:
        part = Shape(course, left[0]).line_up
        shapes = [Shape(course, knot) for knot in part]
        told.append(min(shapes, key=lambda shape: shape.code))
        left = [knot for knot in left if knot not in part]
    return sorted(told, key=lambda shape: shape.code)


def form_text(course):
    """Tell a text that is the same for last forms that are alike, and for these alone."""
    # No two loops of a last form have as many gates.
    turns = [str(many) for many in sorted(list(course.loops().values()))]
    return "; ".join([" ".join(turns), *[shape.code for shape in shapes_of(course)]])

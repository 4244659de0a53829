"""The rings of a web's last form: rings of cuts alone and rings of joins alone."""


class Circle:
    """A ring of knots of one kind, by its arcs as rows go along them."""

    def __init__(self, net, kind, arcs):
        self.trail = arcs
        self.gated = [net.lines[arc][2] for arc in arcs]
        self.entry = net.lines[arcs[0]][0][0]
        self.texts = [ring_signs(net, kind, arcs[at:] + arcs[:at]) for at in range(len(arcs))]

    def deep(self):
        """Tell how many knots the ring has."""
        return len(self.trail)

    def gates_round(self):
        """Tell how many gates stand on the ring."""
        return sum(self.gated)

    def gate_at(self, at):
        """Tell the gate of a number, counted from the entry: its arc, its number there, and what comes round by it."""
        turn = 0
        while at >= self.gated[turn]:
            at -= self.gated[turn]
            turn += 1
        return self.trail[turn], at, self.texts[turn]


def ring_signs(net, kind, arcs):
    """Tell the ring of the row that comes round, as it stands on the first of a ring's arcs."""
    # A join puts its way in ahead, so the last one passed is told first; a cut takes its way out away.
    if kind == "join":
        return "".join([str(net.lines[arc][1][1]) for arc in arcs[::-1]])
    return "".join([str(net.lines[arc][0][1]) for arc in arcs[1:] + arcs[:1]])


def circles_of(net, kind):
    """Tell the rings of knots of one kind in a last form."""
    links = ring_links(net, kind)
    told = []
    seen = set()
    for knot in sorted(links):
        trail = []
        while knot not in seen:
            seen.add(knot)
            trail.append(knot)
            knot = links[knot][0]
        if knot in trail:
            arcs = [links[member][1] for member in trail[trail.index(knot):]]
            told.append(Circle(net, kind, arcs if kind == "join" else arcs[::-1]))
    return told


def ring_links(net, kind):
    """Tell, by each join, the one that it leads to and the arc; or by each cut the one that it comes from."""
    links = {}
    for arc, (begin, end, many) in net.lines.items():
        if begin is None:
            continue
        if kind == "join" and net.points[begin[0]] == kind:
            links[begin[0]] = (end[0], arc)
        if kind == "cut" and net.points[end[0]] == kind:
            links[end[0]] = (begin[0], arc)
    return links

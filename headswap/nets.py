"""Knots and arcs, with how many gates stand on each arc, and the rules that lead them on."""

from headswap.plains import inner_heads

# The arc of the first gate: it leads from the last join to the first cut.
ROOT = 0


class Net:
    """The knots of a web by their numbers, and its arcs by theirs: (begin, end, how many gates)."""

    def __init__(self, points, lines, fresh):
        self.points = points
        self.lines = lines
        self.fresh = fresh

    def copied(self):
        """Tell a net alike."""
        return Net(dict(self.points), dict(self.lines), self.fresh)

    def leaving(self, port):
        """Tell the arc that begins at a way of a knot."""
        return [arc for arc, (begin, end, many) in self.lines.items() if begin == port][0]

    def coming(self, port):
        """Tell the arc that ends at a way of a knot."""
        return [arc for arc, (begin, end, many) in self.lines.items() if end == port][0]

    def starts_of(self):
        """Tell the arcs by the ways of knots where they begin."""
        return {begin: arc for arc, (begin, end, many) in self.lines.items() if begin is not None}

    def ends_of(self):
        """Tell the arcs by the ways of knots where they end."""
        return {end: arc for arc, (begin, end, many) in self.lines.items() if end is not None}

    def lay(self, begin, end, many):
        """Make a new arc and tell its number; no number is given twice."""
        arc = self.fresh
        self.fresh += 1
        self.lines[arc] = (begin, end, many)
        return arc

    def sew(self, port):
        """Make one arc of the one that ends at a port and the one that begins there; tell the changes."""
        first = self.coming(port)
        second = self.leaving(port)
        begin, between, many = self.lines[first]
        if first == second:
            self.lines[first] = (None, None, many)
            return []
        arc = self.lay(begin, self.lines[second][1], many + self.lines[second][2])
        del self.lines[first], self.lines[second]
        return [("chain", first, second, arc, many)]

    def pair(self, first, second):
        """Make one arc of two with as many gates, of each two gates one; tell the change."""
        begin, end, many = self.lines[first]
        arc = self.lay(begin, end, many)
        del self.lines[first], self.lines[second]
        return ("pair", first, second, arc)

    def halve(self, arc):
        """Make two arcs, from way to way, of one that leads from a join to a cut; tell the change."""
        (join, alone), (cut, only), many = self.lines[arc]
        left, right = [self.lay((join, way), (cut, way), many) for way in (0, 1)]
        del self.lines[arc]
        return ("halve", arc, left, right)


def first_net(rows):
    """Tell the net of an exchange by its fewest rows: a tree of cuts, a tree of joins, and one gate."""
    if len(rows) == 1:
        return Net({}, {ROOT: (None, None, 1)}, 1)
    places = dict(rows)
    cuts = numbered([head for head, other in rows], 0)
    joins = numbered([other for head, other in rows], len(cuts))
    ends = [((joins[""], 0), (cuts[""], 0), 1)]
    for stem, cut in cuts.items():
        for way in (0, 1):
            head = f"{stem}{way}"
            end = (cuts[head], 0) if head in cuts else join_port(joins, places[head])
            ends.append(((cut, way), end, 0))
    for stem, join in joins.items():
        if stem != "":
            ends.append(((join, 0), join_port(joins, stem), 0))
    points = {cut: "cut" for cut in cuts.values()}
    points.update({join: "join" for join in joins.values()})
    return Net(points, dict(enumerate(ends)), len(ends))


def numbered(cut, begin):
    """Tell, by the heads where a cut forks, in order, numbers from one on."""
    return {head: begin + at for at, head in enumerate(sorted(inner_heads(cut)))}


def join_port(joins, head):
    """Tell by which way of which join a head is put together again."""
    return (joins[head[:-1]], int(head[-1]))


def rules_of(net):
    """Tell all rules that can be done: first those that leave fewer gates."""
    return part_rules(net) + loop_rules(net) + pass_rules(net)


def kind_at(net, port):
    """Tell whether a port belongs to a cut or to a join, or None on a loop."""
    return None if port is None else net.points[port[0]]


def part_rules(net):
    """Tell the rules by which a cut goes with a join that it leads to."""
    second = {begin: (end, many) for begin, end, many in net.lines.values()
              if kind_at(net, begin) == "cut" and begin[1] == 1}
    told = []
    for begin, end, many in net.lines.values():
        if kind_at(net, begin) == "cut" and begin[1] == 0 and kind_at(net, end) == "join" and end[1] == 0:
            if second[(begin[0], 1)] == ((end[0], 1), many):
                told.append(("part", begin[0], end[0]))
    return told


def pass_rules(net):
    """Tell the rules by which a join goes with a cut that it leads to."""
    return [("pass", begin[0], end[0]) for begin, end, many in net.lines.values()
            if kind_at(net, begin) == "join" and kind_at(net, end) == "cut"]


def loop_rules(net):
    """Tell the rules by which two loops become one."""
    loops = sorted([arc for arc, (begin, end, many) in net.lines.items() if begin is None])
    return [("loops", one, other) for at, one in enumerate(loops) for other in loops[at + 1:]
            if net.lines[one][2] == net.lines[other][2]]


def led_on(net, rule):
    """Do a rule that can be done and tell the changes of arcs, one behind another."""
    word, one, other = rule
    if word == "loops":
        return [net.pair(one, other)]
    if word == "part":
        changes = [net.pair(net.leaving((one, 0)), net.leaving((one, 1)))]
        ports = [(one, 0), (other, 0)]
    else:
        changes = [net.halve(net.leaving((one, 0)))]
        ports = [(one, 0), (one, 1), (other, 0), (other, 1)]
    for port in ports:
        changes.extend(net.sew(port))
    del net.points[one], net.points[other]
    return changes

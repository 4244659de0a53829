"""Gates of two last forms that stand for one another, led back to the heads of both exchanges.

A place is (arc, at, signs): what stands at that gate of the arc with these signs ahead. A part is (place, skip, many,
more): of the gates from a place on, so many, behind the skipped ones, stand at the part's own place, with more signs
known of what comes behind those that were.
"""

from headswap.nets import ROOT


class Matching:
    """Spans of gates of two webs: so many from a place of the one on and from a place of the other one on.

    Whatever comes behind the signs of the one place stands for the same behind the signs of the other one. Spans stand
    by their two arcs. No gates are kept but by their numbers: there may be more of them than could be told.
    """

    def __init__(self):
        self.spans = {}

    def add_span(self, here, there, many):
        """Add a span, as one with that which differs from it in the last sign of both places alone."""
        kept = self.spans.setdefault((here[0], there[0]), {})
        while same_last_sign(here, there) and kept.get((other_last(here), other_last(there))) == many:
            del kept[(other_last(here), other_last(there))]
            here = without_last(here)
            there = without_last(there)
        kept[(here, there)] = many

    def latest(self, side):
        """Tell the latest of the arcs of one web that spans stand on."""
        return max([arcs[side] for arcs in self.spans])

    def unwind(self, side, change, arc):
        """Lead all spans on an arc of one web back to where its gates stood ahead of the change that made the arc."""
        touched = [arcs for arcs in self.spans if arcs[side] == arc]
        for arcs in touched:
            led_back = self.spans.pop(arcs)
            for places, many in led_back.items():
                for place, skip, some, more in parts_ahead(change, places[side], many):
                    other = moved_place(places[1 - side], skip, more)
                    if side == 0:
                        self.add_span(place, other, some)
                    else:
                        self.add_span(other, place, some)


def same_last_sign(here, there):
    """Tell whether the signs of two places end in the same sign."""
    return here[2] != "" and here[2][-1:] == there[2][-1:]


def other_last(place):
    """Tell the place whose signs end in the other sign."""
    arc, at, signs = place
    return (arc, at, signs[:-1] + ("1" if signs[-1] == "0" else "0"))


def without_last(place):
    """Tell the place whose signs lack the last one."""
    arc, at, signs = place
    return (arc, at, signs[:-1])


def moved_place(place, skip, more):
    """Tell a place so many gates further on, with more signs behind its signs."""
    arc, at, signs = place
    return (arc, at + skip, signs + more)


def parts_ahead(change, place, many):
    """Tell the parts of gates of an arc, where they stood ahead of the change that made the arc."""
    arc, at, signs = place
    if change[0] == "halve":
        return [((change[1], at, ("0" if arc == change[2] else "1") + signs), 0, many, "")]
    if change[0] == "chain":
        early = min(max(change[4] - at, 0), many)
        told = [((change[1], at, signs), 0, early, ""),
                ((change[2], at + early - change[4], signs), early, many - early, "")]
        return [part for part in told if part[2] > 0]
    if signs == "":
        return [((change[1], at, ""), 0, many, "0"), ((change[2], at, ""), 0, many, "1")]
    return [((change[1 + int(signs[0])], at, signs[1:]), 0, many, "")]


def settle(matching, course, here, there, many):
    """Add a span whose gates in the second web, told from an arc, may lie ahead of that arc or behind it."""
    left = [(here, there, many)]
    while left:
        here, there, many = left.pop()
        parts = parts_around(course, there, many)
        if parts == [(there, 0, many, "")]:
            matching.add_span(here, there, many)
        else:
            left.extend([(moved_place(here, skip, more), place, some) for place, skip, some, more in parts])


def parts_around(course, place, many):
    """Tell the parts of gates told from an arc: those on it, and those ahead of it and behind it told from the next."""
    arc, at, signs = place
    begin, end, size = course.net.lines[arc]
    ahead = min(max(-at, 0), many)
    behind = min(max(at + many - size, 0), many)
    told = [((arc, at + ahead, signs), ahead, many - ahead - behind, "")]
    if ahead > 0:
        for inward, rest, more in arcs_beyond(course.net, course.incoming, begin, "join", signs):
            told.append(((inward, at + course.net.lines[inward][2], rest), 0, ahead, more))
    if behind > 0:
        skip = many - behind
        for outward, rest, more in arcs_beyond(course.net, course.outgoing, end, "cut", signs):
            told.append(((outward, at + skip - size, rest), skip, behind, more))
    return [part for part in told if part[2] > 0]


def arcs_beyond(net, arcs, port, forking, signs):
    """Tell on which arcs what comes to a port stands beyond its knot: (arc, signs ahead, more signs known)."""
    knot, way = port
    if net.points[knot] != forking:
        return [(arcs[(knot, 0)], f"{way}{signs}", "")]
    if signs == "":
        return [(arcs[(knot, 0)], "", "0"), (arcs[(knot, 1)], "", "1")]
    return [(arcs[(knot, int(signs[0]))], signs[1:], "")]


def matched_heads(matching, courses):
    """Tell the pairs of heads that stand for one another by the first gates of both webs."""
    ranks = [ranks_of(course.makers) for course in courses]
    arcs = (matching.latest(0), matching.latest(1))
    while arcs != (ROOT, ROOT):
        # Webs that are led back side by side have spans that become one again; one led back alone has as many spans
        # as gates.
        side = 0 if ranks[0][arcs[0]] >= ranks[1][arcs[1]] else 1
        matching.unwind(side, courses[side].makers[arcs[side]], arcs[side])
        arcs = (matching.latest(0), matching.latest(1))
    return [(here[2], there[2]) for here, there in matching.spans[arcs]]


def ranks_of(makers):
    """Tell, by each arc that was made and the first one, how many gates the web had when it was made."""
    sizes = {ROOT: 1}
    ranks = {ROOT: 0}
    total = 1
    for arc in sorted(makers):
        change = makers[arc]
        sizes[arc] = sizes.get(change[1], 0)
        if change[0] == "chain":
            sizes[arc] += sizes.get(change[2], 0)
        elif change[0] == "pair":
            total -= sizes[arc]
        elif arc == change[2]:
            total += sizes[arc]
        ranks[arc] = total
    return ranks

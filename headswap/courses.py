"""Where rows stand in the last form of a web, and how they go on there."""

from headswap.endless import first_signs, row_of, sign_at, without
from headswap.nets import ROOT
from headswap.rings import circles_of
from headswap.webs import Web


class Strand:
    """A row of which signs are taken from the front and put there again."""

    def __init__(self, row):
        self.origin = row
        self.gone = 0
        self.ahead = ""

    def draw(self):
        """Take the first sign away and tell it."""
        if self.ahead:
            sign = self.ahead[0]
            self.ahead = self.ahead[1:]
        else:
            sign = sign_at(self.origin, self.gone)
            self.gone += 1
        return sign

    def push(self, sign):
        """Put a sign ahead."""
        self.ahead = sign + self.ahead

    def whole(self):
        """Tell the row as it is now."""
        rest = without(self.origin, self.gone)
        return row_of(self.ahead + rest.head(), rest.ring())


class Course:
    """The last form of an exchange's web, and which changes of arcs led to it.

    No gates are kept but their numbers: a ring may have more of them than could be told. By the changes, gone through
    forwards or backwards, it is found where a row stands and which row stands somewhere.
    """

    def __init__(self, swap):
        web = Web(swap)
        web.last()
        self.net = web.net
        self.outgoing = web.net.starts_of()
        self.incoming = web.net.ends_of()
        self.fates = {}
        self.makers = {}
        for change in web.changes:
            used = 1 if change[0] == "halve" else 2
            self.fates.update({arc: change for arc in change[1:1 + used]})
            self.makers.update({arc: change for arc in change[1 + used:4]})
        self.leaving_rings = {circle.entry: circle for circle in circles_of(self.net, "cut")}
        self.drawing_rings = {circle.entry: circle for circle in circles_of(self.net, "join")}

    def loops(self):
        """Tell, by the numbers of loops, how many gates stand on each."""
        return {arc: many for arc, (begin, end, many) in self.net.lines.items() if begin is None}

    def rings(self):
        """Tell the rings of cuts and those of joins."""
        return list(self.leaving_rings.values()) + list(self.drawing_rings.values())

    def located(self, row):
        """Tell on which arc and at which gate there a row stands, and as what."""
        arc = ROOT
        at = 0
        strand = Strand(row)
        while arc in self.fates:
            change = self.fates[arc]
            if change[0] == "halve":
                arc = change[2 + int(strand.draw())]
                continue
            second = arc == change[2]
            if change[0] == "pair":
                strand.push("1" if second else "0")
            elif second:
                at += change[4]
            arc = change[3]
        return arc, at, strand.whole()

    def traced(self, arc, at, signs):
        """Tell the head and the ring of the row that stands at a gate of an arc as a ring without a head."""
        strand = Strand(row_of("", signs))
        while arc in self.makers:
            change = self.makers[arc]
            if change[0] == "halve":
                strand.push("0" if arc == change[2] else "1")
                arc = change[1]
            elif change[0] == "pair":
                arc = change[1 + int(strand.draw())]
            elif at < change[4]:
                arc = change[1]
            else:
                at -= change[4]
                arc = change[2]
        turn = strand.gone % len(signs)
        return strand.ahead, signs[turn:] + signs[:turn]

    def row_at(self, circle, at):
        """Tell the row that comes round and stands at a gate of a ring, counted from its entry."""
        arc, inner, signs = circle.gate_at(at)
        head, ring = self.traced(arc, inner, signs)
        return row_of(head, ring)

    def standing(self, row):
        """Tell how a row goes on: (mark, lead, turns, circle).

        Rows go to one another just where their marks are the same; lead is how many times, also below nought, it takes
        to the place of the mark; turns are the gates of the loop or ring; circle is None where the row comes round,
        else the ring that it is drawn to.
        """
        arc, at, local = self.located(row)
        strand = Strand(local)
        lead = -at
        while True:
            begin, end, many = self.net.lines[arc]
            if end is None:
                return ("loop", arc, str(local)), lead, many, None
            lead += many
            knot, way = end
            if knot in self.drawing_rings:
                strand.push(str(way))
                return drawn_standing(self.drawing_rings[knot], strand.whole(), lead)
            if self.stays(knot, strand):
                return ("ring", knot, ""), lead, self.leaving_rings[knot].gates_round(), None
            arc = self.outgoing[(knot, self.way_out(knot, way, strand))]

    def stays(self, knot, strand):
        """Tell whether what comes to a knot stays on a ring of cuts for ever."""
        return (knot in self.leaving_rings
                and strand.whole() == row_of("", self.leaving_rings[knot].texts[-1]))

    def way_out(self, knot, way, strand):
        """Tell by which way of a knot a strand that came in by a way goes on, and lead it through."""
        if self.net.points[knot] == "cut":
            return int(strand.draw())
        strand.push(str(way))
        return 0


def drawn_standing(circle, local, lead):
    """Tell, as Course.standing does, how a row goes on that comes to the first arc of a ring of joins."""
    signs = circle.texts[0]
    turns = circle.gates_round()
    if local == row_of("", signs):
        return ("ring", circle.entry, ""), lead, turns, None
    # What begins with the ring's signs has gone round: the mark is told as if it had not.
    while first_signs(local, len(signs)) == signs:
        local = without(local, len(signs))
        lead -= turns
    return ("drawn", circle.entry, str(local)), lead, turns, circle

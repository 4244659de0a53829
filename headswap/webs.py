"""Webs of cuts and joins, which make exchanges, and how they are led to their last form."""

from headswap.errors import NoRule, NothingLeft
from headswap.nets import ROOT, first_net, led_on, rules_of
from headswap.swaps import Swap, swap_of
from headswap.tables import fewest_rows, moved


class Web:
    """A web: its net, and the changes of arcs that led to it, by which it is known what stands in the gates."""

    def __init__(self, swap):
        self.net = first_net(swap.table)
        self.changes = []
        self.former = []

    def knots(self):
        """Tell the kinds of all knots by their numbers."""
        return dict(self.net.points)

    def arcs(self):
        """Tell where each arc begins and ends and what gates stand on it, by its number."""
        gates = gates_by(self.changes)
        return {arc: (begin, end, list(gates.get(arc, ()))) for arc, (begin, end, many) in self.net.lines.items()}

    def rules(self):
        """Tell all rules that can be done."""
        return rules_of(self.net)

    def do(self, rule):
        """Do a rule."""
        if rule not in self.rules():
            raise NoRule("the rule cannot be done")
        # What was there stays as it is: it is kept for taking the rule back, and twins have it, too.
        self.former.append((rule, self.net, self.changes))
        self.net = self.net.copied()
        self.changes = self.changes + led_on(self.net, rule)

    def undo(self):
        """Take the last rule back and tell it."""
        if not self.former:
            raise NothingLeft("no rule was done")
        rule, self.net, self.changes = self.former.pop()
        return rule

    def last(self):
        """Do rules until none is left, and tell how many."""
        many = 0
        rules = self.rules()
        while rules:
            self.do(rules[0])
            many += 1
            rules = self.rules()
        return many

    def swap(self):
        """Tell the exchange that the web makes."""
        starts = self.net.starts_of()
        gates = gates_by(self.changes)
        told = []
        for arc, standing in gates.items():
            for at, gate in enumerate(standing):
                for local, head in gate:
                    told.extend(rows_from(self.net, starts, gates, (head, arc, at + 1, local)))
        return swap_of(told)

    def twin(self):
        """Tell a web alike, also in what can be taken back."""
        other = Web(Swap())
        other.net = self.net
        other.changes = self.changes
        other.former = list(self.former)
        return other

    def __len__(self):
        return len(self.former)


def gates_by(changes):
    """Tell what stands in the gates of each arc behind some changes of arcs; arcs without gates may be left out."""
    told = {ROOT: ((("", ""),),)}
    for change in changes:
        if change[0] == "halve":
            middle = told.pop(change[1], ())
            told[change[2]] = tuple([half_gate(gate, "0") for gate in middle])
            told[change[3]] = tuple([half_gate(gate, "1") for gate in middle])
        else:
            first = told.pop(change[1], ())
            second = told.pop(change[2], ())
            told[change[3]] = first + second if change[0] == "chain" else paired_gates(first, second)
    return told


def half_gate(gate, sign):
    """Tell the gate of those rows that stand at a gate with a sign ahead, without that sign."""
    if gate[0][0] == "":
        return (("", gate[0][1] + sign),)
    return tuple([(local[1:], head) for local, head in gate if local[0] == sign])


def paired_gates(first, second):
    """Tell the gates that gates become, of each two one, where a sign is put ahead of all that stands at them."""
    told = []
    for one, other in zip(first, second):
        rows = [("0" + local, head) for local, head in one] + [("1" + local, head) for local, head in other]
        told.append(tuple(fewest_rows(rows)))
    return tuple(told)


def rows_from(net, starts, gates, place):
    """Tell rows for all under a head, which goes along an arc, behind so many gates of it, as a local."""
    told = []
    left = [place]
    while left:
        head, arc, passed, local = left.pop()
        standing = gates.get(arc, ())
        goals = []
        onward = None
        if passed < len(standing):
            goals = [moved(local, row) for row in standing[passed] if local.startswith(row[0])]
        else:
            onward = way_on(net, starts, arc, local)
        if goals:
            told.append((head, goals[0]))
        elif onward is not None:
            left.append((head, onward[0], 0, onward[1]))
        else:
            left.extend([(head + sign, arc, passed, local + sign) for sign in ("0", "1")])
    return told


def way_on(net, starts, arc, local):
    """Tell by which arc, and as what, a local goes on where an arc ends, or None where a sign is wanted for it."""
    begin, end, many = net.lines[arc]
    if end is None:
        return arc, local
    knot, way = end
    if net.points[knot] == "join":
        return starts[(knot, 0)], f"{way}{local}"
    if local == "":
        return None
    return starts[(knot, int(local[0]))], local[1:]

"""Promises [1], [13], [14] and [15]: webs, the rules that lead them on, and their last forms."""

import copy
import inspect
import itertools
import random
import unittest

from headswap import webs
from headswap.errors import NoRule, NothingLeft
from headswap.swaps import Swap, plain
from headswap.webs import Web
from helping import PARTED, counter, doubling, drawn_swap, image, is_cut, long_words, tables, wheel

MAIN = Swap([("00", "0"), ("01", "10"), ("1", "11")])


def examples():
    """Exchanges of one row to about a dozen, also taken many times, seen through others and within heads."""
    lots = random.Random(10)
    told = [Swap(), plain("0", "1"), plain("00", "1"), MAIN, MAIN.back(), MAIN.power(5), MAIN.power(-4),
            MAIN.within("01"), MAIN.then(plain("0", "1")), doubling(5), doubling(6).power(2), counter(2), counter(5)]
    told += [drawn_swap(lots, many) for many in range(2, 14) for _ in range(2)]
    told += [drawn_swap(lots, 4).seen(drawn_swap(lots, 5)) for _ in range(4)]
    told += [drawn_swap(lots, 3).power(lots.randrange(-4, 5)) for _ in range(4)]
    told += [drawn_swap(lots, 5).within("".join(lots.choices("01", k=3))) for _ in range(3)]
    told += [wheel(lots, *turns) for turns in ((2,), (2, 2, 1), (3, 3, 2), (4, 2, 1, 1), (5, 3, 2))]
    told += [wheel(lots, 2, 2, 1).seen(drawn_swap(lots, 5)), MAIN.within("0").then(plain("00", "1").within("1"))]
    return told + PARTED


SOME = examples()


def walked(arcs, knots, word):
    """What comes of a word, gone through a web as [13] tells; the word is long enough."""
    begins = {begin: number for number, (begin, end, gates) in arcs.items() if begin is not None}
    places = [(number, at, local + word[len(head):]) for number, (begin, end, gates) in arcs.items()
              for at, gate in enumerate(gates) for local, head in gate if word.startswith(head)]
    if len(places) != 1:
        raise AssertionError(places)
    number, at, word = places[0]
    at += 1
    while at == len(arcs[number][2]):
        end = arcs[number][1]
        at = 0
        if end is not None and knots[end[0]] == "cut":
            number = begins[(end[0], int(word[0]))]
            word = word[1:]
        elif end is not None:
            word = str(end[1]) + word
            number = begins[(end[0], 0)]
    goals = [head + word[len(local):] for local, head in arcs[number][2][at] if word.startswith(local)]
    if len(goals) != 1:
        raise AssertionError(goals)
    return goals[0]


def rules_wanted(arcs, knots):
    """All rules that can be done, as [14] tells them."""
    ends = {begin: (end, len(gates)) for begin, end, gates in arcs.values() if begin is not None}
    told = []
    for one, other in itertools.permutations(knots, 2):
        if (knots[one], knots[other]) == ("cut", "join"):
            if ends[(one, 0)][0] == (other, 0) and ends[(one, 1)][0] == (other, 1):
                if ends[(one, 0)][1] == ends[(one, 1)][1]:
                    told.append(("part", one, other))
        if (knots[one], knots[other]) == ("join", "cut") and ends[(one, 0)][0] == (other, 0):
            told.append(("pass", one, other))
    for one, other in itertools.combinations(sorted(arcs), 2):
        if arcs[one][0] is None and arcs[other][0] is None and len(arcs[one][2]) == len(arcs[other][2]):
            told.append(("loops", one, other))
    return told


def loops(arcs):
    return [len(gates) for begin, end, gates in arcs.values() if begin is None]


def rings(arcs, knots, kind):
    """How many knots and gates each ring of knots of one kind has."""
    paths = {}
    for begin, end, gates in arcs.values():
        if begin is not None and knots[begin[0]] == knots[end[0]] == kind:
            if kind == "join":
                paths[begin[0]] = (end[0], len(gates))
            else:
                paths[end[0]] = (begin[0], len(gates))
    told = {}
    for knot in paths:
        here = knot
        # Whoever goes on for so long goes round.
        for _ in paths:
            here = paths[here][0] if here in paths else here
        if here not in paths or paths[here][0] not in paths:
            continue
        ring = [here]
        while paths[ring[-1]][0] != here:
            ring.append(paths[ring[-1]][0])
        told[min(ring)] = (len(ring), sum(paths[knot][1] for knot in ring))
    return sorted(told.values())


def form(web):
    """What last forms of one exchange have in common."""
    arcs, knots = web.arcs(), web.knots()
    kinds = sorted(knots.values())
    return (kinds.count("cut"), kinds.count("join"), sorted(loops(arcs)), rings(arcs, knots, "cut"),
            rings(arcs, knots, "join"))


def state(web):
    return copy.deepcopy((web.knots(), web.arcs(), sorted(web.rules()), len(web)))


class Whole(unittest.TestCase):
    """Tests that look at a web from all sides."""

    def look(self, web, swap):
        arcs, knots = web.arcs(), web.knots()
        self.look_at_ways(arcs, knots)
        self.look_at_gates(arcs)
        self.look_round(arcs)
        rows = swap.rows()
        lots = random.Random(len(web))
        longest = max(len(head) for head, other in rows) + 20
        for word in ["".join(lots.choices("01", k=longest)) for _ in range(6)] + ["0" * longest, "1" * longest]:
            self.assertEqual(walked(arcs, knots, word), image(rows, word), (rows, word))
        self.assertEqual(web.swap(), swap)
        self.assertIsInstance(web.swap(), Swap)
        self.assertEqual(sorted(web.rules()), sorted(rules_wanted(arcs, knots)), rows)

    def look_at_ways(self, arcs, knots):
        begins = sorted(begin for begin, end, gates in arcs.values() if begin is not None)
        ends = sorted(end for begin, end, gates in arcs.values() if end is not None)
        self.assertEqual(begins, sorted((knot, way) for knot, kind in knots.items()
                                        for way in ((0, 1) if kind == "cut" else (0,))))
        self.assertEqual(ends, sorted((knot, way) for knot, kind in knots.items()
                                      for way in ((0, 1) if kind == "join" else (0,))))
        for number, (begin, end, gates) in arcs.items():
            self.assertIs(type(number), int)
            self.assertEqual(begin is None, end is None)
            self.assertTrue(begin is not None or gates)

    def look_at_gates(self, arcs):
        heads = []
        for begin, end, gates in arcs.values():
            self.assertIs(type(gates), list)
            for gate in gates:
                self.assertIs(type(gate), tuple)
                locals_there = [local for local, head in gate]
                self.assertEqual(locals_there, sorted(locals_there))
                self.assertTrue(is_cut(locals_there), gate)
                self.assertEqual({type(row) for row in gate}, {tuple})
                heads += [head for local, head in gate]
        self.assertTrue(is_cut(heads), heads)

    def look_round(self, arcs):
        free = [(begin[0], end[0]) for begin, end, gates in arcs.values() if begin is not None and not gates]
        while free:
            rest = [(begin, end) for begin, end in free if any(end == after for after, _ in free)]
            self.assertLess(len(rest), len(free), "a way round without a gate")
            free = rest


class AtFirst(Whole):
    def test_one_row(self):
        web = Web(Swap())
        self.assertEqual(web.knots(), {})
        self.assertEqual(list(web.arcs().values()), [(None, None, [(("", ""),)])])
        self.assertEqual((web.rules(), len(web), web.last()), ([], 0, 0))

    def test_two_rows(self):
        web = Web(plain("0", "1"))
        knots, arcs = web.knots(), web.arcs()
        (cut,) = [knot for knot in knots if knots[knot] == "cut"]
        (join,) = [knot for knot in knots if knots[knot] == "join"]
        self.assertCountEqual(arcs.values(), [((join, 0), (cut, 0), [(("", ""),)]), ((cut, 0), (join, 1), []),
                                              ((cut, 1), (join, 0), [])])
        self.assertEqual(web.rules(), [("pass", join, cut)])

    def test_numbers_of_knots_and_gates(self):
        for swap in SOME + [Swap(rows) for rows in tables(4)[::9]]:
            web = Web(swap)
            kinds = list(web.knots().values())
            self.assertEqual((kinds.count("cut"), kinds.count("join"), len(kinds)),
                             (len(swap) - 1, len(swap) - 1, 2 * len(swap) - 2))
            self.assertEqual([gate for _, _, gates in web.arcs().values() for gate in gates], [(("", ""),)])
            self.assertEqual(len(web), 0)
            self.assertRaises(NothingLeft, web.undo)

    def test_from_all_sides(self):
        for swap in SOME + [Swap(rows) for rows in tables(4)[::5]]:
            self.look(Web(swap), swap)

    def test_the_exchange_stays(self):
        swap = Swap(MAIN.rows())
        web = Web(swap)
        web.last()
        self.assertEqual((swap, swap.rows()), (MAIN, MAIN.rows()))


class Rules(Whole):
    def test_each_small_table_to_its_end(self):
        for rows in tables(3):
            swap = Swap(rows)
            web = Web(swap)
            while web.rules():
                web.do(web.rules()[-1])
                self.look(web, swap)

    def test_in_drawn_orders(self):
        for seed, swap in enumerate(SOME):
            lots = random.Random(seed)
            web = Web(swap)
            while web.rules():
                rule = lots.choice(web.rules())
                knots, many, size = len(web.knots()), len(loops(web.arcs())), len(web)
                self.assertIsNone(web.do(rule))
                fewer = 0 if rule[0] == "loops" else 2
                self.assertEqual(len(web.knots()), knots - fewer)
                self.assertTrue(fewer or len(loops(web.arcs())) == many - 1)
                self.assertEqual(len(web), size + 1)
                self.look(web, swap)

    def test_parts_first(self):
        several = 0
        for seed, swap in itertools.product(range(6), PARTED):
            lots = random.Random(seed)
            web = Web(swap)
            while web.rules():
                rule = lots.choice([rule for rule in web.rules() if rule[0] == "part"] or web.rules())
                if rule[0] == "pass":
                    (gates,) = [gates for begin, end, gates in web.arcs().values() if begin == (rule[1], 0)]
                    several += any(len(gate) > 1 for gate in gates)
                web.do(rule)
                self.look(web, swap)
        self.assertGreater(several, 0)

    def test_each_kind_is_met(self):
        met = set()
        for swap in SOME:
            for choice in (0, -1):
                web = Web(swap)
                while web.rules():
                    met.add(web.rules()[choice][0])
                    web.do(web.rules()[choice])
        self.assertEqual(met, {"part", "pass", "loops"})

    def test_part(self):
        swap = Swap([("00", "11"), ("01", "10"), ("10", "01"), ("11", "00")])
        web = Web(swap)
        while not [rule for rule in web.rules() if rule[0] == "part"]:
            web.do([rule for rule in web.rules() if rule[0] == "pass"][0])
        (rule,) = [rule for rule in web.rules() if rule[0] == "part"]
        kinds, many = web.knots(), len(loops(web.arcs()))
        self.assertEqual((kinds[rule[1]], kinds[rule[2]]), ("cut", "join"))
        self.assertIn(("pass", rule[2], rule[1]), web.rules())
        web.do(rule)
        self.assertEqual((web.knots(), len(loops(web.arcs()))), ({}, many + 1))
        self.look(web, swap)

    def test_no_part_with_more_gates_on_one_way(self):
        # The rows under 0 take three times, those under 1 five: the loops stay two, and so do ways with unlike gates.
        swap = wheel(random.Random(4), 5, 3)
        web = Web(swap)
        web.last()
        self.assertEqual(sorted(loops(web.arcs())), [3, 5])
        one, other = [number for number, (begin, _, _) in sorted(web.arcs().items()) if begin is None]
        self.assertRaises(NoRule, web.do, ("loops", one, other))

    def test_unlike_gates_stay_apart_at_a_join(self):
        found = 0
        for swap in SOME:
            web = Web(swap)
            while web.rules():
                web.do(web.rules()[-1])
                arcs, knots = web.arcs(), web.knots()
                ends = {begin: (end, len(gates)) for begin, end, gates in arcs.values() if begin is not None}
                for cut in [knot for knot in knots if knots[knot] == "cut"]:
                    (join, way), many = ends[(cut, 0)]
                    (same, turn), other = ends[(cut, 1)]
                    if knots[join] == "join" and (join, way, turn) == (same, 0, 1) and many != other:
                        found += 1
                        self.assertRaises(NoRule, web.do, ("part", cut, join))
        self.assertGreater(found, 0)

    def test_refused(self):
        for swap in SOME[::2]:
            web = Web(swap)
            for turn in range(3):
                can, before = web.rules(), state(web)
                numbers = sorted({*web.knots(), *web.arcs(), -1, 10 ** 24})
                wrong = [(word, one, other) for word in ("part", "pass", "loops", "pas", "", "undo", "parts")
                         for one in numbers for other in numbers]
                wrong = [rule for rule in wrong if rule not in can]
                for rule in wrong[::max(1, len(wrong) // 300)] + [(word, two, one) for word, one, two in can]:
                    self.assertRaises(NoRule, web.do, rule)
                self.assertEqual(state(web), before)
                if can:
                    web.do(can[turn % len(can)])

    def test_loops_of_one_number_is_no_rule(self):
        web = Web(Swap())
        (arc,) = web.arcs()
        self.assertRaises(NoRule, web.do, ("loops", arc, arc))


class TakenBack(Whole):
    def test_all_the_way(self):
        for seed, swap in enumerate(SOME):
            lots = random.Random(seed)
            web = Web(swap)
            trail = []
            while web.rules():
                rule = lots.choice(web.rules())
                trail.append((rule, state(web)))
                web.do(rule)
                if lots.random() < 0.3:
                    rule, before = trail.pop()
                    self.assertEqual(web.undo(), rule)
                    self.assertEqual(state(web), before)
                    web.do(rule)
                    trail.append((rule, before))
            while trail:
                rule, before = trail.pop()
                self.assertEqual(web.undo(), rule)
                self.assertEqual(state(web), before)
            self.look(web, swap)
            self.assertRaises(NothingLeft, web.undo)

    def test_last_can_be_taken_back(self):
        for swap in SOME[::3]:
            web = Web(swap)
            before = state(web)
            many = web.last()
            self.assertEqual([len(web), web.last()], [many, 0])
            for left in range(many - 1, -1, -1):
                web.undo()
                self.assertEqual(len(web), left)
            self.assertEqual(state(web), before)

    def test_some_five_and_twenty_rows(self):
        for seed, make in enumerate((lambda lots: drawn_swap(lots, 25), lambda lots: wheel(lots, 9, 7, 5, 4),
                                     lambda lots: drawn_swap(lots, 6).seen(drawn_swap(lots, 18)))):
            swap = make(random.Random(seed))
            web = Web(swap)
            before = state(web)
            many = web.last()
            self.look(web, swap)
            self.assertEqual(len(web), many)
            for _ in range(many):
                web.undo()
            self.assertEqual(state(web), before)
            self.look(web, swap)


class LastForm(Whole):
    def test_no_join_leads_to_a_cut(self):
        for swap in SOME + [Swap(rows) for rows in tables(4)[::4]]:
            web = Web(swap)
            many = web.last()
            self.assertEqual((len(web), web.rules()), (many, []))
            knots = web.knots()
            for begin, end, gates in web.arcs().values():
                if begin is not None:
                    self.assertNotEqual((knots[begin[0]], knots[end[0]]), ("join", "cut"))
            self.look(web, swap)

    def test_alike_in_any_order(self):
        for swap in SOME:
            wanted = Web(swap)
            wanted.last()
            for seed in range(5):
                lots = random.Random(seed)
                web = Web(swap)
                while web.rules():
                    rules = sorted(web.rules())
                    web.do((min, max, lots.choice, lots.choice, lots.choice)[seed](rules))
                self.assertEqual(form(web), form(wanted), swap.rows())

    def test_known_forms(self):
        for swap, wanted in ((Swap(), (0, 0, [1], [], [])), (plain("0", "1"), (0, 0, [2], [], [])),
                             (MAIN, (1, 1, [], [(1, 1)], [(1, 1)])), (MAIN.power(3), (3, 3, [], [(3, 1)], [(3, 1)])),
                             (MAIN.within("1"), (1, 1, [1], [(1, 1)], [(1, 1)])),
                             (counter(4), (0, 0, [16], [], [])),
                             (wheel(random.Random(3), 3, 3, 2, 1, 1), (0, 0, [1, 2, 3], [], []))):
            web = Web(swap)
            web.last()
            self.assertEqual(form(web), wanted, swap.rows())

    def test_last_behind_some_rules(self):
        for swap in SOME[::4]:
            whole = Web(swap)
            whole.last()
            web = Web(swap)
            done = 0
            while web.rules() and done < 3:
                web.do(web.rules()[-1])
                done += 1
            many = web.last()
            self.assertEqual(len(web), done + many)
            self.assertEqual(form(web), form(whole))

    def test_many_gates(self):
        # A ring of 2 ** 24 gates is reached and left again without any of them being told.
        web = Web(counter(24))
        many = web.last()
        self.assertEqual((web.rules(), web.knots()), ([], {}))
        for _ in range(many):
            web.undo()
        self.look(web, counter(24))


class Twins(Whole):
    def test_alike_and_apart(self):
        for swap in SOME[::3]:
            web = Web(swap)
            for _ in range(2):
                if web.rules():
                    web.do(web.rules()[0])
            twin = web.twin()
            self.assertIs(type(twin), Web)
            before = state(web)
            self.assertEqual(state(twin), before)
            twin.last()
            self.assertEqual(state(web), before)
            self.look(web, swap)
            self.look(twin, swap)
            other = web.twin()
            trail = []
            while len(other):
                trail.append((other.undo(), state(other)))
            self.assertEqual(state(web), before)
            self.assertEqual([(web.undo(), state(web)) for _ in trail], trail)
            self.assertEqual(twin.rules(), [])

    def test_a_web_goes_on_without_its_twin(self):
        web = Web(SOME[20])
        twin = web.twin()
        before = state(twin)
        web.last()
        self.assertEqual(state(twin), before)
        self.assertRaises(NothingLeft, twin.undo)


class Told(unittest.TestCase):
    def test_may_be_changed(self):
        for swap in SOME[::3]:
            web = Web(swap)
            for _ in range(2):
                before = state(web)
                knots, arcs, rules = web.knots(), web.arcs(), web.rules()
                knots[10 ** 6] = "cut"
                for begin, end, gates in arcs.values():
                    gates.append(())
                arcs.clear()
                rules.append(("part", 0, 0))
                self.assertEqual(state(web), before)
                self.assertEqual(web.swap(), swap)
                web.last()

    def test_asked_again(self):
        for swap in SOME[::3]:
            web = Web(swap)
            web.last()
            self.assertEqual(state(web), state(web))
            self.assertEqual(web.swap(), web.swap())

    def test_kinds(self):
        web = Web(MAIN)
        self.assertEqual([type(told) for told in (web.knots(), web.arcs(), web.rules(), web.last(), len(web))],
                         [dict, dict, list, int, int])
        for swap in SOME:
            web = Web(swap)
            self.assertTrue(all(type(rule) is tuple for rule in web.rules()))
            for begin, end, gates in web.arcs().values():
                self.assertTrue(begin is None or type(begin) is tuple and type(end) is tuple)

    def test_interface(self):
        names = {"knots": [], "arcs": [], "rules": [], "do": ["rule"], "undo": [], "last": [], "swap": [], "twin": [],
                 "__len__": []}
        self.assertEqual(list(inspect.signature(webs.Web).parameters), ["swap"])
        for name, wanted in names.items():
            self.assertIn(name, vars(webs.Web))
            self.assertEqual(list(inspect.signature(getattr(webs.Web, name)).parameters)[1:], wanted)
        web = webs.Web(swap=MAIN)
        self.assertIsNone(web.do(rule=web.rules()[0]))

    def test_walked_for_all_words(self):
        for rows in tables(3):
            web = Web(Swap(rows))
            for _ in range(2):
                arcs, knots = web.arcs(), web.knots()
                for word in long_words(7):
                    self.assertEqual(walked(arcs, knots, word), image(rows, word))
                web.last()

    def test_made_apart(self):
        webs_there = [Web(MAIN) for _ in range(2)]
        before = state(webs_there[1])
        webs_there[0].last()
        self.assertEqual(state(webs_there[1]), before)


if __name__ == "__main__":
    unittest.main()

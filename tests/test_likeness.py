"""Promises [1] and [19]: whether two exchanges are one, seen through a third one."""

import copy
import inspect
import itertools
import random
import unittest

from headswap import likeness
from headswap.errors import TooGreat
from headswap.life import Life
from headswap.likeness import alike, shows, stamp
from headswap.swaps import Swap, plain
from helping import NO_HEADS, PARTED, comb, counter, doubling, drawn_cut, drawn_swap, is_cut, split, tables, wheel

MAIN = Swap([("00", "0"), ("01", "10"), ("1", "11")])
FLIP = plain("0", "1")


def examples():
    lots = random.Random(19)
    told = [Swap(), FLIP, plain("00", "1"), plain("0110", "111"), MAIN, MAIN.back(), MAIN.power(2), MAIN.power(3),
            MAIN.power(-3), MAIN.within("01"), MAIN.then(FLIP), MAIN.then(plain("00", "01")), doubling(5), counter(4),
            MAIN.within("0").then(MAIN.within("1")), MAIN.within("0").then(MAIN.power(2).within("1")),
            MAIN.within("0").then(MAIN.back().within("1")), MAIN.within("0").then(FLIP),
            MAIN.within("00").then(counter(2))]
    told += [drawn_swap(lots, many) for many in range(2, 13) for _ in range(4)]
    told += [wheel(lots, *turns) for turns in ((2,), (3, 1), (2, 2, 1), (3, 3, 2), (4, 2, 1), (5, 3, 2, 1))]
    return told + PARTED


SOME = examples()


def gone(some, head):
    """Where a head goes by tables, one behind another, or None where it goes apart."""
    for rows in some:
        goals = [other + head[len(begin):] for begin, other in rows if head.startswith(begin)]
        if not goals:
            return None
        (head,) = goals
    return head


def same_way(some, others):
    """Whether tables, one behind another, lead all rows where other ones do."""
    left = [""]
    while left:
        head = left.pop()
        here, there = gone(some, head), gone(others, head)
        if here is None or there is None:
            left += [head + "0", head + "1"]
        elif here != there:
            return False
    return True


def seen_through(swap, other):
    """The one seen through the other, or None where it is too great."""
    try:
        return swap.seen(other)
    except TooGreat:
        return None


def kinds(swap):
    """What is the same for exchanges that are alike, and is found without webs being compared."""
    life = Life(swap)
    turns = [turn for turn, heads in life.rounds()]
    orbits = [sorted((len(rows), deep, tails(rows)) for rows, deep in told) for told in (life.drawn(), life.left())]
    return turns, orbits


def tails(rows):
    """The rings of an orbit's rows as far as no exchange changes them: all begun with the least turn."""
    return sorted(min(ring[at:] + ring[:at] for at in range(len(ring))) for ring in [row.ring() for row in rows])


class Whole(unittest.TestCase):
    def look(self, one, other):
        """That the rows told are those of an exchange by which the one, seen through it, is the other."""
        rows = alike(one, other)
        self.assertIs(type(rows), list)
        self.assertTrue(all(type(row) is tuple and len(row) == 2 for row in rows))
        self.assertTrue(is_cut([head for head, goal in rows]))
        self.assertTrue(is_cut([goal for head, goal in rows]))
        self.assertTrue(same_way([one.rows(), rows], [rows, other.rows()]), (one.rows(), other.rows()))
        self.assertIs(shows(one, other, rows), True)
        self.assertEqual(stamp(one), stamp(other))

    def look_unlike(self, one, other):
        self.assertIsNone(alike(one, other), (one.rows(), other.rows()))
        self.assertNotEqual(stamp(one), stamp(other))


class Alike(Whole):
    def test_with_itself(self):
        for swap in SOME:
            self.look(swap, swap)
            self.look(swap, Swap(swap.rows()))

    def test_seen_through_others(self):
        lots = random.Random(2)
        for swap in SOME:
            for other in (FLIP, MAIN, plain("0", "10"), swap, *[drawn_swap(lots, many) for many in (3, 5, 8)]):
                seen = seen_through(swap, other)
                if seen is not None:
                    self.look(swap, seen)
                    self.look(seen, swap)

    def test_seen_through_others_again_and_again(self):
        lots = random.Random(3)
        for swap in SOME[::3]:
            here = swap
            for _ in range(5):
                here = seen_through(here, drawn_swap(lots, 4)) or here
            self.look(swap, here)
            self.look(here, swap)

    def test_small_tables_through_small_tables(self):
        lots = random.Random(4)
        others = [Swap(rows) for rows in tables(4)]
        for rows in tables(3):
            swap = Swap(rows)
            for other in lots.sample(others, 6):
                self.look(swap, swap.seen(other))

    def test_many_rows(self):
        lots = random.Random(5)
        found = 0
        for _ in range(30):
            swap = drawn_swap(lots, lots.choice((20, 40, 56)))
            seen = seen_through(swap, drawn_swap(lots, 4))
            if seen is not None:
                found += 1
                self.look(swap, seen)
        self.assertGreater(found, 5)
        for swap in (MAIN.power(60), MAIN.power(-60), MAIN.power(30).within("0101")):
            self.look(swap, swap.seen(FLIP))
            self.look(swap.seen(plain("00", "01")), swap)

    def test_known(self):
        self.assertEqual(alike(Swap(), Swap()), [("", "")])
        for one, other in ((FLIP, plain("00", "01").then(plain("10", "11"))), (plain("0", "10"), plain("111", "0")),
                           (MAIN.within("0"), MAIN.within("1101")), (MAIN.then(FLIP), wheel(random.Random(1), 3)),
                           (MAIN.within("0").then(MAIN.within("10")), MAIN.within("11").then(MAIN.within("0")))):
            self.look(one, other)
            self.look(other, one)

    def test_one_behind_another_either_way(self):
        # What is done first matters to no more than a third one: a then b is b then a, seen through a taken back.
        lots = random.Random(6)
        for _ in range(40):
            one, other = drawn_swap(lots, 4), drawn_swap(lots, 5)
            self.look(one.then(other), other.then(one))


class Unlike(Whole):
    def test_squares_and_third_powers(self):
        for swap in SOME:
            if Life(swap).order() is None:
                for many in (2, 3, -2, 4):
                    self.look_unlike(swap, swap.power(many))
                self.look_unlike(swap.power(2), swap.power(3))

    def test_known(self):
        for one, other in ((Swap(), FLIP), (FLIP, plain("0", "10")), (MAIN, MAIN.back()), (MAIN, MAIN.within("0")),
                           (MAIN, Swap()), (MAIN.within("0"), MAIN.within("0").then(MAIN.within("10"))),
                           (MAIN.within("0").then(MAIN.within("1")), MAIN), (counter(3), counter(4)),
                           (MAIN.within("0").then(MAIN.within("1")), MAIN.within("0").then(MAIN.back().within("1"))),
                           (MAIN.within("0").then(FLIP), MAIN.within("0").then(MAIN.within("1")))):
            self.look_unlike(one, other)
            self.look_unlike(other, one)

    def test_by_what_lies_between_rings(self):
        # Both have the same rings, and rows go from the same ones to the same ones, but not by as many ways.
        met = {}
        for rows in tables(4):
            swap = Swap(rows)
            met.setdefault(str(kinds(swap)), {}).setdefault(stamp(swap), swap)
        pairs = [pair for some in met.values() for pair in itertools.combinations(some.values(), 2)]
        self.assertGreater(len(pairs), 0)
        for one, other in pairs:
            self.assertIsNone(alike(one, other))
            for third in [Swap(rows) for rows in tables(3)]:
                self.assertNotEqual(one.seen(third), other)

    def test_alike_ones_become_of_rows_alike(self):
        known = {at: kinds(swap) for at, swap in enumerate(SOME)}
        found = 0
        for one, other in itertools.combinations(range(len(SOME)), 2):
            told = alike(SOME[one], SOME[other])
            self.assertEqual(told is None, alike(SOME[other], SOME[one]) is None)
            self.assertEqual(told is None, stamp(SOME[one]) != stamp(SOME[other]))
            if told is not None:
                found += 1
                self.assertEqual(known[one], known[other])
                self.look(SOME[one], SOME[other])
        self.assertGreater(found, 0)


class ComingRound(Whole):
    def test_alike_where_the_numbers_are(self):
        lots = random.Random(7)
        some = [(1,), (2,), (1, 1), (2, 1), (1, 1, 2), (2, 2), (3,), (3, 1), (3, 3), (3, 2), (3, 2, 1), (2, 3, 3, 2, 1),
                (4,), (4, 2), (4, 1), (6,), (6, 1), (3, 6), (2, 2, 2, 2, 2)]
        made = [(turns, wheel(lots, *turns)) for turns in some for _ in range(2)]
        for (turns, one), (others, other) in itertools.product(made, repeat=2):
            if set(turns) == set(others):
                self.look(one, other)
            else:
                self.look_unlike(one, other)

    def test_twenty_rows(self):
        lots = random.Random(8)
        some = [(20,), (10, 10), (19, 1), (5, 5, 10), (10, 5, 5), (10, 5, 3, 2), (2, 3, 5, 10), (1,) * 20, (2,) * 10,
                (7, 6, 5, 2), (7, 6, 5, 1, 1), (7, 6, 5)]
        made = [(turns, wheel(lots, *turns)) for turns in some for _ in range(2)]
        for (turns, one), (others, other) in itertools.product(made, repeat=2):
            self.assertEqual(alike(one, other) is not None, set(turns) == set(others))
            if set(turns) == set(others):
                self.look(one, other)

    def test_seen_through_others(self):
        lots = random.Random(9)
        for turns in ((2, 1), (5, 3), (4, 4, 4), (11, 7, 2), (8, 6, 4, 2)):
            for many in (2, 6, 12):
                one = wheel(lots, *turns)
                self.look(one, one.seen(drawn_swap(lots, many)))

    def test_great_numbers(self):
        # A ring of 2 ** 50 gates: they are matched without any of them being told alone.
        for many in (12, 19, 30, 50):
            for other in (Swap(), FLIP, MAIN, plain("10", "0"), drawn_swap(random.Random(many), 6)):
                self.look(counter(many), counter(many).seen(other))
                self.look(counter(many).seen(other), counter(many))
            self.look_unlike(counter(many), counter(many - 1))
            self.look_unlike(counter(many), counter(many).within("0"))
        for many in (8, 19, 30):
            swap = MAIN.within("0" * many).then(counter(many))
            for other in (Swap(), FLIP, MAIN, swap):
                seen = seen_through(swap, other)
                if seen is not None:
                    self.look(swap, seen)
                    self.look(seen, swap)
            self.look_unlike(swap, swap.back())


class Shows(unittest.TestCase):
    def both(self, one, other, rows):
        """What is told of rows, which is the same of lists and tuples and of rows in another order."""
        before = copy.deepcopy(rows)
        told = shows(one, other, rows)
        self.assertIs(type(told), bool)
        self.assertEqual(rows, before)
        self.assertIs(shows(one, other, tuple(tuple(row) for row in rows)), told)
        self.assertIs(shows(one, other, [list(row) for row in reversed(rows)]), told)
        return told

    def test_rows_of_the_third_one(self):
        lots = random.Random(10)
        for swap in SOME:
            third = drawn_swap(lots, 5)
            seen = seen_through(swap, third)
            if seen is not None:
                rows = third.rows()
                self.assertTrue(self.both(swap, seen, rows))
                self.assertTrue(self.both(seen, swap, third.back().rows()))
                self.assertTrue(self.both(swap, seen, swap.then(third).rows()))
                for at in range(len(rows)):
                    self.assertTrue(self.both(swap, seen, split(rows, at)))

    def test_just_where_it_is_so(self):
        lots = random.Random(11)
        some = [Swap(rows) for rows in lots.sample(tables(3), 6)] + [Swap(), MAIN, FLIP]
        for one, other, third in itertools.product(some, repeat=3):
            self.assertEqual(self.both(one, other, third.rows()), one.seen(third) == other)

    def test_long_heads(self):
        lots = random.Random(12)
        for many in (80, 200, 300):
            rows = list(zip(comb(many), comb(many, "0")[::-1]))
            self.assertTrue(self.both(Swap(), Swap(), rows))
            self.assertFalse(self.both(FLIP, FLIP, rows))
            lots.shuffle(rows)
            self.assertTrue(self.both(Swap(), Swap(), rows))
            self.assertFalse(self.both(Swap(), Swap(), rows[1:]))
        fine = [("", "")]
        while len(fine) < 250:
            fine = split(fine, len(fine) - 1)
        self.assertTrue(self.both(MAIN, MAIN, fine))
        self.assertFalse(self.both(MAIN, MAIN.back(), fine))

    def test_rows_that_are_no_table(self):
        for swap, third in ((MAIN, MAIN), (FLIP, FLIP), (Swap(), MAIN), (MAIN, plain("0", "10")), (Swap(), FLIP)):
            seen = swap.seen(third)
            rows = third.rows()
            self.assertTrue(self.both(swap, seen, rows))
            self.assertFalse(self.both(swap, seen, []))
            for at, (head, goal) in enumerate(rows):
                rest = rows[:at] + rows[at + 1:]
                self.assertFalse(self.both(swap, seen, rest))
                self.assertFalse(self.both(swap, seen, rows + [(head, goal)]))
                self.assertFalse(self.both(swap, seen, rest + [(head + "0", goal + "0")]))
                for sign in "01x- \n":
                    self.assertFalse(self.both(swap, seen, rest + [(head + sign, goal)]))
                    self.assertFalse(self.both(swap, seen, rest + [(head, goal + sign)]))
                self.assertFalse(self.both(swap, seen, rest + [(head[:-1], goal)]))
                self.assertFalse(self.both(swap, seen, rest + [(head, goal[:-1])]))

    def test_exchanged_others(self):
        rows = MAIN.rows()
        for order in itertools.permutations([goal for head, goal in rows]):
            changed = [(head, goal) for (head, other), goal in zip(rows, order)]
            self.assertEqual(self.both(MAIN, MAIN, changed), changed == rows)

    def test_other_texts(self):
        for text in [*NO_HEADS, "x", "{0>1}", "a" * 4000]:
            for rows in ([(text, "")], [("", text)], [(text, text)], [("0", "0"), ("1", text)],
                         [("0", text), ("1", "1"), ("", "")]):
                self.assertFalse(self.both(Swap(), Swap(), rows))

    def test_other_signs_where_heads_would_be_a_cut(self):
        for sign in " -~x2\n":
            for odd in ([f"0{sign}", "01", "1"], [f"{sign}", "1"], ["0", f"1{sign}", "11"], [f"00{sign}", "001", "01",
                                                                                             "1"]):
                for even in (["0", "10", "11"], ["00", "01", "1"], odd):
                    self.assertFalse(self.both(Swap(), Swap(), list(zip(odd, even))))
                    self.assertFalse(self.both(Swap(), Swap(), list(zip(even, odd))))

    def test_two_unlike_ones(self):
        for third in [Swap(rows) for rows in tables(3)]:
            self.assertFalse(self.both(MAIN, MAIN.power(2), third.rows()))
            self.assertFalse(self.both(Swap(), FLIP, third.rows()))


class Stamps(unittest.TestCase):
    def test_texts(self):
        for swap in SOME:
            self.assertIs(type(stamp(swap)), str)
            self.assertEqual(stamp(swap), stamp(Swap(swap.rows())))

    def test_the_same_just_where_alike_tells_rows(self):
        some = [Swap(rows) for rows in tables(3)[::2]] + SOME[:20]
        stamps = [stamp(swap) for swap in some]
        for one, other in itertools.combinations(range(len(some)), 2):
            self.assertEqual(stamps[one] == stamps[other], alike(some[one], some[other]) is not None)


class Told(unittest.TestCase):
    def test_may_be_changed(self):
        rows = alike(MAIN, MAIN.seen(FLIP))
        wanted = list(rows)
        rows.clear()
        self.assertEqual(alike(MAIN, MAIN.seen(FLIP)), wanted)

    def test_asking_changes_nothing(self):
        for swap in SOME[::4]:
            seen = seen_through(swap, FLIP)
            before = swap.rows(), seen.rows()
            self.assertEqual(alike(swap, seen), alike(swap, seen))
            self.assertEqual(stamp(swap), stamp(swap))
            self.assertEqual((swap.rows(), seen.rows()), before)

    def test_interface(self):
        for name, wanted in {"alike": ["one", "other"], "shows": ["one", "other", "rows"], "stamp": ["swap"]}.items():
            self.assertEqual(list(inspect.signature(getattr(likeness, name)).parameters), wanted)
        rows = alike(other=MAIN, one=MAIN)
        self.assertTrue(shows(rows=rows, other=MAIN, one=MAIN))
        self.assertEqual(stamp(swap=MAIN), stamp(MAIN))

    def test_beside_one_another(self):
        lots = random.Random(13)
        some = [drawn_swap(lots, 3) for _ in range(4)]
        heads = drawn_cut(lots, 4)
        rows = [(head + begin, head + end) for head, swap in zip(heads, some) for begin, end in swap.rows()]
        turned = [(head + begin, head + end) for head, swap in zip(heads, some[::-1]) for begin, end in swap.rows()]
        self.assertTrue(shows(Swap(rows), Swap(turned), alike(Swap(rows), Swap(turned))))


if __name__ == "__main__":
    unittest.main()

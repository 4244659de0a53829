"""Promises [1], [16], [17] and [18]: what becomes of rows."""

import inspect
import math
import random
import unittest

from headswap.endless import Endless, read_endless
from headswap.heads import fewest
from headswap.life import Life
from headswap.swaps import Swap, plain
from helping import PARTED, counter, doubling, drawn_cut, drawn_swap, is_cut, long_words, tables, told_by, wheel, words

MAIN = Swap([("00", "0"), ("01", "10"), ("1", "11")])
ROWS = [Endless(head, ring) for head in words(3) for ring in ("0", "1", "01", "001", "011")]


def beside(lots, *some):
    """Exchanges side by side, each under a head of a cut."""
    rows = []
    for head, swap in zip(drawn_cut(lots, len(some)), some):
        rows += [(head + begin, head + end) for begin, end in swap.rows()]
    return Swap(rows)


def examples():
    lots = random.Random(16)
    told = [Swap(), plain("0", "1"), plain("00", "1"), MAIN, MAIN.back(), MAIN.power(3), MAIN.within("01"),
            MAIN.then(plain("0", "1")), MAIN.then(plain("00", "01")), doubling(5), counter(4)]
    told += [drawn_swap(lots, many) for many in range(2, 9) for _ in range(6)]
    told += [wheel(lots, *turns) for turns in ((2,), (3, 1), (2, 2, 1), (3, 3, 2), (4, 2, 1), (5, 3, 2, 1))]
    told += [wheel(lots, 3, 2, 1).seen(drawn_swap(lots, 5)) for _ in range(3)]
    told += [drawn_swap(lots, 4).seen(drawn_swap(lots, 4)) for _ in range(4)]
    told += [beside(lots, MAIN, Swap(), drawn_swap(lots, 4)), beside(lots, wheel(lots, 2, 1), MAIN.back(), counter(3)),
             beside(lots, wheel(lots, 3, 3), wheel(lots, 3), plain("0", "1")), beside(lots, MAIN, MAIN, MAIN.power(2)),
             MAIN.within("1").then(plain("0", "1")), MAIN.power(2).within("00").then(wheel(lots, 4, 1))]
    # The rings of these do not stand by their least rows.
    told += [told_by("00>0111 010>0100 011>00 100>0101 101>0110 11>1"),
             told_by("00>11 01>010 100>0111 101>10 110>00 111>0110"),
             told_by("00>101 01>0 100>1111 1010>1110 1011>1101 110>1100 111>100")]
    return told + PARTED


SOME = examples()


def gone(rows, head):
    """Where a head goes, or None where it goes apart."""
    for begin, end in rows:
        if head.startswith(begin):
            return end + head[len(begin):]
    return None


def led_times(rows, head, many):
    for _ in range(many):
        head = None if head is None else gone(rows, head)
    return head


def taken(swap, row, many):
    """A row, the exchange done so many times, below nought taken back."""
    swap = swap if many > 0 else swap.back()
    for _ in range(abs(many)):
        row = swap.of(row)
    return row


def first_return(swap, row, most):
    """After how many times a row comes back for the first time, or None if not after at most so many."""
    here = row
    for turn in range(1, most + 1):
        here = swap.of(here)
        if here == row:
            return turn
    return None


def agreed(one, other):
    """In how many signs two rows agree, as far as it matters."""
    signs = zip(one.signs(many=4000), other.signs(many=4000))
    for at, (here, there) in enumerate(signs):
        if here != there:
            return at
    return 4000


def all_turns(swap, deep):
    """By words so deep: after how many times all under it comes back sign by sign, or None if not soon."""
    rows = swap.rows()
    told = {}
    for word in long_words(deep):
        here, turn = word, 0
        while here is not None and (turn == 0 or here != word) and turn < 70:
            here, turn = gone(rows, here), turn + 1
        told[word] = turn if here == word else None
    return told


def rows_of(orbits):
    return [row for rows, deep in orbits for row in rows]


class Rounds(unittest.TestCase):
    def test_known(self):
        for swap, wanted in ((Swap(), [(1, [""])]), (plain("0", "1"), [(2, [""])]),
                             (plain("00", "1"), [(1, ["01"]), (2, ["00", "1"])]), (MAIN, []),
                             (MAIN.within("01"), [(1, ["00", "1"])]), (MAIN.then(plain("0", "1")), [(3, [""])]),
                             (counter(3), [(8, [""])]),
                             (Swap([("0", "100"), ("10", "11"), ("110", "0"), ("111", "101")]),
                              [(2, ["101", "111"]), (3, ["0", "100", "110"])])):
            self.assertEqual(Life(swap).rounds(), wanted, swap.rows())

    def test_rising_and_joined(self):
        for swap in SOME:
            rounds = Life(swap).rounds()
            turns = [turn for turn, heads in rounds]
            self.assertEqual(turns, sorted(set(turns)))
            for turn, heads in rounds:
                self.assertTrue(heads)
                self.assertEqual(heads, fewest(heads))

    def test_all_under_them_comes_back_just_then(self):
        for swap in SOME:
            rows = swap.rows()
            for turn, heads in Life(swap).rounds():
                left = list(heads)
                while left:
                    word = left.pop()
                    trail = [led_times(rows, word, many) for many in range(1, turn + 1)]
                    if trail[-1] is None:
                        left += [word + "0", word + "1"]
                    else:
                        self.assertEqual(trail.index(word), turn - 1)

    def test_no_others_do(self):
        for swap in SOME:
            rounds = Life(swap).rounds()
            deep = max(len(head) for head, other in swap.rows()) + 2
            if deep > 9:
                continue
            for word, turn in all_turns(swap, deep).items():
                under = [there for there, heads in rounds for head in heads if word.startswith(head)]
                if turn is not None:
                    self.assertEqual(under, [turn], (swap.rows(), word))

    def test_small_tables(self):
        for rows in tables(4)[::3]:
            swap = Swap(rows)
            rounds = Life(swap).rounds()
            for word, turn in all_turns(swap, 6).items():
                under = [there for there, heads in rounds for head in heads if word.startswith(head)]
                if turn is not None or under:
                    self.assertEqual(under, [turn], (rows, word))

    def test_more_times_than_could_be_gone(self):
        self.assertEqual(Life(counter(39)).rounds(), [(2 ** 39, [""])])
        swap = beside(random.Random(1), counter(20), counter(30), Swap())
        heads = sorted(heads[0] for turn, heads in Life(swap).rounds())
        self.assertEqual([(turn, len(heads)) for turn, heads in Life(swap).rounds()],
                         [(1, 1), (2 ** 20, 1), (2 ** 30, 1)])
        self.assertTrue(is_cut(heads))


class Orbits(unittest.TestCase):
    def test_known(self):
        for swap, drawn, left in ((Swap(), [], []), (plain("0", "1"), [], []),
                                  (MAIN, [(["(1)"], 1)], [(["(0)"], 1)]),
                                  (MAIN.back(), [(["(0)"], 1)], [(["(1)"], 1)]),
                                  (MAIN.power(3), [(["(1)"], 3)], [(["(0)"], 3)]),
                                  (MAIN.within("01"), [(["0(1)"], 1)], [(["01(0)"], 1)])):
            life = Life(swap)
            for told, wanted in ((life.drawn(), drawn), (life.left(), left)):
                self.assertEqual(told, [([read_endless(row) for row in rows], deep) for rows, deep in wanted])

    def test_an_orbit_of_two(self):
        life = Life(MAIN.within("00").then(plain("00", "01")))
        for orbits, wanted in ((life.drawn(), ["00(1)", "0(1)"]), (life.left(), ["0(0)", "01(0)"])):
            self.assertEqual([([str(row) for row in rows], deep) for rows, deep in orbits],
                             [([str(read_endless(row)) for row in wanted], 1)])

    def look(self, swap):
        """All that [16] says of orbits."""
        life = Life(swap)
        for orbits, does in ((life.drawn(), swap), (life.left(), swap.back())):
            self.assertTrue(all(one[0][0].before(other[0][0]) for one, other in zip(orbits, orbits[1:])))
            for rows, deep in orbits:
                self.assertIs(type(rows), list)
                self.assertFalse(any(row.before(rows[0]) for row in rows))
                self.assertTrue(all(swap.of(row) == after for row, after in zip(rows, rows[1:] + rows[:1])))
                self.assertEqual(len({str(row) for row in rows}), len(rows))
                table = does.rows()
                for row in rows[:3]:
                    # Where each time takes at most 63 signs away, so many are enough.
                    head = row.signs(many=min(4000, 1100 + 63 * len(rows)))
                    goal = led_times(table, head, len(rows))
                    self.assertTrue(goal.startswith(head))
                    self.assertEqual(len(goal) - len(head), deep)
                    self.assertGreater(deep, 0)

    def test_from_all_sides(self):
        for swap in SOME:
            self.look(swap)

    def test_small_tables(self):
        for rows in tables(4)[::5]:
            self.look(Swap(rows))

    def test_no_others_come_round(self):
        for swap in SOME:
            life = Life(swap)
            heads = [head for turn, heads in life.rounds() for head in heads]
            told = rows_of(life.drawn()) + rows_of(life.left())
            for row in ROWS[::4]:
                if first_return(swap, row, 40) is not None and not any(row.starts(head) for head in heads):
                    self.assertIn(row, told, swap.rows())

    def test_deep(self):
        for swap, wanted in ((MAIN.power(60), 60), (MAIN.power(-60), 60), (MAIN.power(17).within("0110"), 17)):
            self.look(swap)
            life = Life(swap)
            self.assertEqual([deep for rows, deep in life.drawn() + life.left()], [wanted, wanted])

    def test_long_orbits(self):
        # What a counter does with what comes back to its first head: orbits as long as the counter goes.
        for many in (3, 8, 10):
            swap = MAIN.within("0" * many).then(counter(many))
            life = Life(swap)
            self.look(swap)
            self.assertEqual([(len(rows), deep) for rows, deep in life.drawn() + life.left()], [(2 ** many, 1)] * 2)
            self.assertEqual(life.rounds(), [])
            head, times, signs = life.grows()
            self.assertEqual((times, led_times(swap.rows(), head, times)), (2 ** many, head + signs))


class Order(unittest.TestCase):
    def test_known(self):
        for swap, wanted in ((Swap(), 1), (plain("0", "1"), 2), (plain("00", "1"), 2), (MAIN, None),
                             (MAIN.then(plain("0", "1")), 3), (doubling(5), 4), (counter(7), 128),
                             (MAIN.within("01"), None), (wheel(random.Random(1), 4, 6), 12)):
            self.assertEqual(Life(swap).order(), wanted, swap.rows())

    def test_just_one_is_none(self):
        for swap in SOME + [Swap(rows) for rows in tables(4)[::7]]:
            life = Life(swap)
            self.assertEqual(life.order() is None, life.grows() is not None)
            self.assertEqual(life.order() is None, bool(life.drawn()))
            self.assertEqual(life.order() is None, bool(life.left()))

    def test_the_least_number(self):
        for swap in SOME + [Swap(rows) for rows in tables(4)[::7]]:
            order = Life(swap).order()
            if order is not None:
                here = swap
                for _ in range(order - 1):
                    self.assertNotEqual(here, Swap())
                    here = here.then(swap)
                self.assertEqual(here, Swap())

    def test_large(self):
        lots = random.Random(7)
        for turns in ((3, 4, 5, 7, 11, 1, 9), (13, 11, 9, 7), (40,), (2, 3, 5, 7, 23), (1,) * 40):
            swap = wheel(lots, *turns)
            self.assertEqual(Life(swap).order(), math.lcm(*turns))
            seen = swap.seen(drawn_swap(lots, 6))
            self.assertEqual(Life(seen).order(), math.lcm(*turns))
        self.assertEqual(Life(counter(39)).order(), 2 ** 39)
        self.assertEqual(Life(counter(60)).order(), 2 ** 60)

    def test_grows(self):
        for swap in SOME + [Swap(rows) for rows in tables(4)[::7]]:
            grows = Life(swap).grows()
            if grows is not None:
                head, times, signs = grows
                self.assertGreater(times, 0)
                self.assertGreater(len(signs), 0)
                self.assertEqual(led_times(swap.rows(), head, times), head + signs)

    def test_grows_after_a_great_number_of_times(self):
        head, times, signs = Life(MAIN.within("0" * 30).then(counter(30))).grows()
        self.assertEqual((times, len(signs)), (2 ** 30, 1))
        self.assertIsNone(Life(MAIN.within("0" * 30).then(counter(30))).order())


class Becomes(unittest.TestCase):
    def look(self, swap, row):
        """All that [17] says of the future and the past of a row."""
        life = Life(swap)
        for told, does, orbits in ((life.future(row), swap, life.drawn()), (life.past(row), swap.back(), life.left())):
            self.assertIs(type(told), tuple)
            if told[0] == "round":
                self.assertEqual(told, ("round", first_return(does, row, 300)), (swap.rows(), row))
                continue
            word, times, goal = told
            self.assertEqual((word, type(goal)), ("drawn", Endless))
            self.assertIsNone(first_return(does, row, 60))
            self.assertEqual(first_return(does, goal, times), times)
            (deep,) = [deep for rows, deep in orbits if goal in rows]
            here = taken(does, row, 30 * times)
            after = taken(does, here, times)
            self.assertGreater(agreed(here, goal), 15)
            self.assertEqual(agreed(after, goal), agreed(here, goal) + deep)

    def test_known(self):
        zero, one = Endless("", "0"), Endless("", "1")
        life = Life(MAIN)
        self.assertEqual([life.future(zero), life.past(one)], [("round", 1)] * 2)
        self.assertEqual(life.future(Endless("01", "0")), ("drawn", 1, one))
        self.assertEqual(life.past(Endless("01", "0")), ("drawn", 1, zero))
        life = Life(MAIN.within("00").then(plain("00", "01")))
        self.assertEqual(life.future(Endless("0000", "01")), ("drawn", 2, Endless("00", "1")))
        self.assertEqual(life.future(Endless("0100", "01")), ("drawn", 2, Endless("01", "1")))
        self.assertEqual(life.past(Endless("0011", "01")), ("drawn", 2, Endless("00", "0")))
        self.assertEqual(life.future(Endless("1", "01")), ("round", 1))

    def test_from_all_sides(self):
        lots = random.Random(3)
        for swap in SOME:
            life = Life(swap)
            rows = lots.sample(ROWS, 7) + rows_of(life.drawn())[:2] + rows_of(life.left())[:2]
            rows += [Endless(head, "01") for head, other in swap.rows()[:3] + swap.rows()[-2:]]
            for row in rows:
                self.look(swap, row)

    def test_small_tables(self):
        for at, rows in enumerate(tables(3)):
            for row in ROWS[at % 9::9]:
                self.look(Swap(rows), row)

    def test_long_rows(self):
        row = read_endless("0" * 1500 + "1" * 20 + "(01)")
        life = Life(MAIN)
        self.assertEqual(life.future(row), ("drawn", 1, Endless("", "1")))
        self.assertEqual(life.past(row), ("drawn", 1, Endless("", "0")))
        # Each time takes one nought away, but the last one is turned.
        self.assertEqual(life.steps(row, read_endless("0" * 300 + "1" * 20 + "(01)")), 1200)
        for many in (3, 400, 1600, -500):
            self.assertEqual(life.steps(row, taken(MAIN, row, many)), many)
        row = read_endless("(" + "0" * 3000 + "1)")
        self.assertEqual(life.future(row), ("drawn", 1, Endless("", "1")))
        self.assertEqual(life.steps(taken(MAIN, row, 900), row), -900)
        row = read_endless("0" * 3996 + "(1)")
        self.assertEqual(life.steps(row, Endless("01", "1")), 3995)

    def test_after_a_great_number_of_times(self):
        life = Life(counter(45))
        row = Endless("0" * 45, "01")
        self.assertEqual(life.future(row), ("round", 2 ** 45))
        self.assertEqual(life.past(row), ("round", 2 ** 45))
        self.assertEqual(life.steps(row, Endless("1" * 45, "01")), 2 ** 45 - 1)
        self.assertEqual(life.steps(Endless("1" * 45, "01"), row), 1)
        self.assertEqual(life.steps(row, Endless("1011" + "0" * 41, "01")), 13)
        self.assertIsNone(life.steps(row, Endless("1" * 45, "10")))
        life = Life(MAIN.within("1" * 40).then(counter(40)))
        row = Endless("0" * 40 + "01", "10")
        self.assertEqual(life.future(row), ("drawn", 2 ** 40, Endless("0" * 40, "1")))
        self.assertEqual(life.past(row), ("drawn", 2 ** 40, Endless("", "0")))
        self.assertEqual(life.steps(row, Endless("1" * 40 + "01", "10")), 2 ** 40 - 1)
        self.assertIsNone(life.steps(Endless("0" * 40, "01"), row))
        self.assertEqual(life.steps(Endless("0" * 40, "10"), row), -2 ** 40)


class Steps(unittest.TestCase):
    def test_either_way(self):
        lots = random.Random(9)
        for swap in SOME:
            life = Life(swap)
            for row in lots.sample(ROWS, 5) + rows_of(life.drawn())[:1] + rows_of(life.left())[:1]:
                for many in (0, 1, -1, lots.randrange(2, 40), -lots.randrange(2, 40)):
                    goal = taken(swap, row, many)
                    future = life.future(row)
                    wanted = many % future[1] if future[0] == "round" else many
                    self.assertEqual(life.steps(row, goal), wanted, (swap.rows(), row, many))

    def test_none(self):
        lots = random.Random(11)
        for swap in SOME:
            life = Life(swap)
            for _ in range(6):
                one, other = lots.sample(ROWS, 2)
                many = life.steps(one, other)
                if many is None:
                    onward, backward = one, one
                    for _ in range(20):
                        self.assertNotIn(other, (onward, backward))
                        onward, backward = swap.of(onward), swap.back().of(backward)
                else:
                    self.assertEqual(taken(swap, one, many), other)

    def test_known(self):
        life = Life(MAIN)
        self.assertEqual(life.steps(Endless("0", "01"), Endless("0", "01")), 0)
        self.assertIsNone(life.steps(Endless("", "0"), Endless("", "1")))
        self.assertIsNone(life.steps(Endless("", "0"), Endless("01", "0")))
        self.assertIsNone(life.steps(Endless("01", "0"), Endless("", "1")))
        self.assertEqual(life.steps(Endless("", "1"), Endless("", "1")), 0)
        self.assertEqual(Life(plain("0", "1")).steps(Endless("0", "1"), Endless("", "1")), 1)
        self.assertEqual(Life(Swap()).steps(Endless("0", "1"), Endless("0", "1")), 0)
        self.assertIsNone(Life(Swap()).steps(Endless("0", "1"), Endless("", "1")))

    def test_many_steps(self):
        swap = drawn_swap(random.Random(21), 6)
        while Life(swap).order() is not None:
            swap = swap.then(MAIN)
        life = Life(swap)
        for row in ROWS:
            if life.future(row)[0] == "drawn":
                for many in (300, -300):
                    self.assertEqual(life.steps(row, taken(swap, row, many)), many)
                break


class Stand(unittest.TestCase):
    """How lives stand to one another."""

    def test_taken_back(self):
        for swap in SOME:
            life, back = Life(swap), Life(swap.back())
            self.assertEqual(back.rounds(), life.rounds())
            self.assertEqual(back.order(), life.order())
            for here, there in ((life.drawn(), back.left()), (life.left(), back.drawn())):
                self.assertEqual([(rows[:1] + rows[:0:-1], deep) for rows, deep in here], there)
            for row in ROWS[::9]:
                self.assertEqual(back.future(row), life.past(row))
                self.assertEqual(back.past(row), life.future(row))

    def test_powers(self):
        for swap in SOME[::2]:
            life = Life(swap)
            for many in (2, 3, -2):
                if len(swap) > 8:
                    continue
                power = Life(swap.power(many))
                order = life.order()
                self.assertEqual(power.order(), None if order is None else order // math.gcd(order, many))
                forth, back = (power.drawn(), power.left()) if many > 0 else (power.left(), power.drawn())
                for here, there in ((life.drawn(), forth), (life.left(), back)):
                    self.assertEqual(sorted(map(str, rows_of(here))), sorted(map(str, rows_of(there))))
                    for rows, deep in there:
                        (number, single), = [(len(orbit), deep) for orbit, deep in here if rows[0] in orbit]
                        self.assertEqual(len(rows), number // math.gcd(number, many))
                        self.assertEqual(deep, single * abs(many) // math.gcd(number, many))

    def test_seen_through(self):
        lots = random.Random(12)
        for swap in SOME[::2]:
            third = drawn_swap(lots, 5)
            life, seen = Life(swap), Life(swap.seen(third))
            self.assertEqual(seen.order(), life.order())
            self.assertEqual([turn for turn, heads in seen.rounds()], [turn for turn, heads in life.rounds()])
            for here, there in ((life.drawn(), seen.drawn()), (life.left(), seen.left())):
                self.assertEqual(sorted((sorted(str(third.of(row)) for row in rows), deep) for rows, deep in here),
                                 sorted((sorted(map(str, rows)), deep) for rows, deep in there))
            for row in ROWS[::11]:
                future = life.future(row)
                goal = future[:2] + tuple(third.of(drawn) for drawn in future[2:])
                self.assertEqual(seen.future(third.of(row)), goal)


class Told(unittest.TestCase):
    def test_may_be_changed_and_asked_again(self):
        lots = random.Random(13)
        for swap in SOME[::3]:
            life = Life(swap)
            row = ROWS[len(swap)]
            asks = {"rounds": life.rounds, "drawn": life.drawn, "left": life.left, "order": life.order,
                    "grows": life.grows, "future": lambda: life.future(row), "past": lambda: life.past(row),
                    "steps": lambda: life.steps(row, swap.of(row))}
            wanted = {name: repr(ask()) for name, ask in asks.items()}
            for name in lots.choices(sorted(asks), k=20):
                told = asks[name]()
                self.assertEqual(repr(told), wanted[name])
                if isinstance(told, list):
                    for thing in told:
                        for inner in thing:
                            if isinstance(inner, list):
                                inner.reverse()
                                inner.append("00")
                    told.clear()

    def test_the_exchange_stays(self):
        swap = Swap(MAIN.rows())
        life = Life(swap)
        life.drawn(), life.past(ROWS[3])
        self.assertEqual((swap, swap.rows()), (MAIN, MAIN.rows()))

    def test_kinds(self):
        life = Life(MAIN.within("01"))
        (turn, heads), = life.rounds()
        self.assertEqual([type(told) for told in (life.rounds()[0], turn, heads)], [tuple, int, list])
        for orbits in (life.drawn(), life.left()):
            self.assertEqual([type(orbits), type(orbits[0]), type(orbits[0][0]), type(orbits[0][1])],
                             [list, tuple, list, int])
            self.assertIs(type(orbits[0][0][0]), Endless)
        self.assertEqual([type(told) for told in life.grows()], [str, int, str])
        self.assertIs(type(life.grows()), tuple)

    def test_interface(self):
        names = {"rounds": [], "drawn": [], "left": [], "order": [], "grows": [], "future": ["row"], "past": ["row"],
                 "steps": ["one", "other"]}
        self.assertEqual(list(inspect.signature(Life).parameters), ["swap"])
        for name, wanted in names.items():
            self.assertIn(name, vars(Life))
            self.assertEqual(list(inspect.signature(getattr(Life, name)).parameters)[1:], wanted)
        life = Life(swap=MAIN)
        self.assertEqual(life.steps(other=Endless("", "0"), one=Endless("", "0")), 0)
        self.assertEqual(life.future(row=Endless("", "0")), ("round", 1))


if __name__ == "__main__":
    unittest.main()

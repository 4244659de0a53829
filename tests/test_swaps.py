"""Promises [1], [5], [6] and [7]: exchanges, and what is made of them."""

import inspect
import itertools
import unittest

from headswap import swaps
from headswap.endless import Endless, read_endless
from headswap.errors import BadHead, BadNumber, BadTable, NotApart, TooGreat
from headswap.swaps import MOST_ROWS, POWERS, Swap, plain
from helping import (NO_HEADS, comb, cuts, doubling, fewest_table, image, led_to, long_words, not_apart, split, tables,
                     wide_rows, words)

SMALL = tables(3)
DEEP = 8
ROWS = [Endless(head, ring) for head in words(3) for ring in ("0", "1", "01", "001", "0111")]

# as it is told, as it is written
WRITTEN = (
    ([("", "")], "{->-}"),
    ([("0", "0"), ("1", "1")], "{->-}"),
    ([("0", "1"), ("1", "0")], "{0>1 1>0}"),
    ([("00", "0"), ("01", "10"), ("1", "11")], "{00>0 01>10 1>11}"),
    ([("1", "11"), ("00", "0"), ("01", "10")], "{00>0 01>10 1>11}"),
    ([("10", "110"), ("000", "00"), ("01", "10"), ("11", "111"), ("001", "01")], "{00>0 01>10 1>11}"),
    ([("11", "01"), ("10", "00"), ("0", "1")], "{0>1 1>0}"),
    ([("00", "01"), ("01", "00"), ("1", "1")], "{00>01 01>00 1>1}"),
    ([("00", "11"), ("01", "10"), ("10", "01"), ("11", "00")], "{00>11 01>10 10>01 11>00}"),
    ([("0", "10"), ("10", "0"), ("110", "110"), ("111", "111")], "{0>10 10>0 11>11}"),
    ([("0" + "1" * 59, "0" + "1" * 59)] + [("0" + "1" * at + "0", "0" + "1" * at + "0") for at in range(59)]
     + [("1", "1")], "{->-}"),
)


def maker(*some):
    """What several tables, one behind another, make of a word."""
    def make(word):
        for rows in some:
            word = image(rows, word)
        return word
    return make


def turned(rows):
    return [(other, head) for head, other in rows]


def unrolled(row, many):
    return (row.head() + row.ring() * many)[:many]


class Made(unittest.TestCase):
    def test_numbers(self):
        self.assertEqual((MOST_ROWS, POWERS), (64, 60))

    def test_written(self):
        for rows, text in WRITTEN:
            with self.subTest(rows):
                swap = Swap(rows)
                self.assertEqual(str(swap), text)
                self.assertEqual(len(swap), text.count(">"))
                self.assertEqual(repr(swap), f"Swap({len(swap)} rows)")

    def test_repr_of_one_row(self):
        self.assertEqual(repr(Swap()), "Swap(1 rows)")

    def test_left_out(self):
        self.assertEqual(Swap().rows(), [("", "")])
        self.assertEqual(Swap(), Swap([("", "")]))
        self.assertEqual(Swap(rows=[("1", "0"), ("0", "1")]).rows(), [("0", "1"), ("1", "0")])

    def test_fewest_rows_of_all_small_tables(self):
        for rows in tables(4):
            self.assertEqual(Swap(rows).rows(), fewest_table(maker(rows), 5), rows)

    def test_any_order_and_more_rows(self):
        for rows in SMALL:
            wanted = Swap(rows).rows()
            for order in itertools.permutations(rows):
                self.assertEqual(Swap(list(order)).rows(), wanted)
            for at in range(len(rows)):
                more = split(rows, at)
                self.assertEqual(Swap(more).rows(), wanted)
                self.assertEqual(Swap(more[::-1]).rows(), wanted)
                self.assertEqual(Swap(split(more, len(rows) - at)[::-1]).rows(), wanted)

    def test_lists_and_tuples(self):
        rows = [("00", "0"), ("01", "10"), ("1", "11")]
        for told in (rows, tuple(rows), [list(row) for row in rows], tuple(list(row) for row in rows)):
            self.assertEqual(Swap(told).rows(), rows)
            self.assertEqual([type(row) for row in Swap(told).rows()], [tuple] * 3)

    def test_longest_heads(self):
        deep = list(zip(comb(61), comb(61, "0")))
        self.assertEqual(len(Swap(deep)), 61)
        self.assertEqual(Swap(deep).rows(), sorted(deep))
        self.assertEqual(max(len(head) for head, other in deep), 60)

    def test_many_rows(self):
        self.assertEqual(len(Swap([(word, word) for word in long_words(8)])), 1)
        self.assertEqual(len(Swap([(word, word[::-1]) for word in long_words(6)])), 64)


class Refused(unittest.TestCase):
    def test_bad_heads(self):
        for text in NO_HEADS:
            for rows in ([(text, "")], [("", text)], [("0", "1"), (text, "0")], [("0", "1"), ("1", text)],
                         [("0", "0"), ("0", "0"), (text, "1")], [("0", "0"), ("0", "0"), ("1", text)]):
                with self.subTest(rows), self.assertRaises(BadHead):
                    Swap(rows)

    def test_one_sign_more(self):
        rows = list(zip(comb(62), comb(62)))
        with self.assertRaises(BadHead):
            Swap(rows)
        with self.assertRaises(BadHead):
            Swap([("0" * 61, "0"), ("1", "1")])

    def test_bad_tables(self):
        for rows in ([], (), [("0", "")], [("", "0")], [("0", "0")], [("0", "0"), ("0", "1")], [("0", "0"), ("1", "0")],
                     [("0", "1"), ("1", "0"), ("1", "0")], [("", ""), ("", "")], [("", ""), ("0", "1")],
                     [("0", "0"), ("10", "1")], [("0", "0"), ("1", "10")], [("0", "00"), ("1", "1")],
                     [("00", "0"), ("01", "1"), ("11", "10")], [("0", "0"), ("1", "1"), ("10", "10")]):
            with self.subTest(rows), self.assertRaises(BadTable):
                Swap(rows)

    def test_all_short_lists(self):
        for others in ([""], ["0", "1"], ["0", "10", "11"]):
            for heads in itertools.product(words(2), repeat=len(others)):
                rows = list(zip(heads, others))
                for told in (rows, turned(rows)):
                    if sorted(heads) in cuts(2):
                        self.assertEqual(Swap(told).rows(), fewest_table(maker(told), 4))
                    else:
                        with self.assertRaises(BadTable):
                            Swap(told)

    def test_a_head_too_few_or_twice(self):
        cut = [word for word in long_words(3)]
        for at in range(8):
            rows = [(word, word) for word in cut]
            for told in (rows[:at] + rows[at + 1:], rows + [rows[at]], turned(rows[:at] + rows[at + 1:])):
                with self.assertRaises(BadTable):
                    Swap(told)
            for told in ([("000", cut[at])] + rows[1:], [(cut[at], "000")] + rows[1:]):
                if at:
                    with self.assertRaises(BadTable):
                        Swap(told)

    def test_too_great(self):
        for many in (65, 66, 100, 128):
            with self.subTest(many), self.assertRaises(TooGreat):
                Swap(wide_rows(many))
        with self.assertRaises(TooGreat):
            Swap(tuple(wide_rows(65)[::-1]))

    def test_just_not_too_great(self):
        self.assertEqual(len(Swap(wide_rows(64))), 64)
        deep = [("0" + head, "0" + other) for head, other in zip(comb(60), comb(60)[::-1])]
        self.assertEqual(len(Swap(deep + [("10", "11"), ("11", "10")])), 62)

    def test_told_by_more_rows(self):
        more = [(head + sign, other + sign) for head, other in wide_rows(64) for sign in "01"]
        self.assertEqual(Swap(more).rows(), sorted(wide_rows(64)))
        more = [(head + sign, other + sign) for head, other in wide_rows(65) for sign in "01"]
        with self.assertRaises(TooGreat):
            Swap(more)

    def test_bad_heads_go_ahead_of_bad_tables(self):
        for rows in ([("0", "0"), ("x", "1")], [("0", "x"), ("0", "0")], [("0", "0"), ("0", "0"), ("", "x")]):
            with self.subTest(rows), self.assertRaises(BadHead):
                Swap(rows)

    def test_bad_tables_go_ahead_of_too_great(self):
        with self.assertRaises(BadTable):
            Swap(wide_rows(66)[1:])
        with self.assertRaises(BadTable):
            Swap(wide_rows(66) + [("", "")])


class Kept(unittest.TestCase):
    def test_handed_lists_stay_and_may_be_changed(self):
        for rows, text in WRITTEN:
            inner = [list(row) for row in rows]
            handed = list(inner)
            swap = Swap(handed)
            self.assertEqual(handed, [list(row) for row in rows])
            inner[0][0] = "x"
            handed.clear()
            self.assertEqual(str(swap), text)

    def test_told_lists_may_be_changed(self):
        swap = Swap([("1", "0"), ("0", "1")])
        told = swap.rows()
        self.assertIs(type(told), list)
        told.append(("x", "y"))
        told[0] = None
        self.assertEqual(swap.rows(), [("0", "1"), ("1", "0")])
        still = Swap([("0", "0"), ("10", "11"), ("11", "10")])
        still.fixed().clear()
        self.assertEqual(still.fixed(), ["0"])

    def test_a_refused_one_changes_nothing(self):
        rows = [("0", "1"), ("1", "x")]
        with self.assertRaises(BadHead):
            Swap(rows)
        self.assertEqual(rows, [("0", "1"), ("1", "x")])
        swap = Swap([("0", "1"), ("1", "0")])
        for ask in (lambda: swap.power(61), lambda: swap.within("x"), lambda: swap.leads("x")):
            with self.assertRaises((BadNumber, BadHead)):
                ask()
            self.assertEqual(str(swap), "{0>1 1>0}")

    def test_asking_changes_nothing(self):
        one = Swap([("00", "0"), ("01", "10"), ("1", "11")])
        other = Swap([("0", "1"), ("1", "0")])
        row = Endless("01", "10")
        for again in range(2):
            self.assertEqual(str(one.then(other)), "{00>1 01>00 1>01}")
            self.assertEqual(str(one.back()), "{0>00 10>01 11>1}")
            self.assertEqual(str(one.power(2)), "{000>0 001>10 01>110 1>111}")
            self.assertEqual(str(one.seen(other)), "{0>01 10>1 11>00}")
            self.assertEqual(str(one.within("1")), "{0>0 100>10 101>110 11>111}")
            self.assertEqual((one.fixed(), one.leads("1"), str(one.of(row))), ([], "11", "(10)"))
            self.assertEqual(str(one.parted(other)), str(one.parted(other)))
            self.assertEqual((str(one), str(other), str(row)), ("{00>0 01>10 1>11}", "{0>1 1>0}", "01(10)"))


class Equal(unittest.TestCase):
    def test_beside_one_another(self):
        small = SMALL + [split(rows, 0) for rows in SMALL]
        made = [(Swap(rows), fewest_table(maker(rows), 5)) for rows in small]
        for (one, told), (other, wanted) in itertools.product(made, repeat=2):
            self.assertIs(one == other, told == wanted)
            self.assertIs(one != other, told != wanted)

    def test_beside_other_things(self):
        swap = Swap()
        for other in (None, 1, 0, "", "{->-}", [("", "")], (("", ""),), swap.rows(), Endless("", "0"), Swap, True):
            self.assertIs(swap == other, False)
            self.assertIs(swap != other, True)
            self.assertIs(other == swap, False)


class Of(unittest.TestCase):
    def test_ordinary(self):
        swap = Swap([("00", "0"), ("01", "10"), ("1", "11")])
        for text, told in (("(0)", "(0)"), ("00(1)", "0(1)"), ("01(10)", "(10)"), ("(1)", "(1)"), ("(01)", "10(01)"),
                           ("1(0)", "11(0)"), ("(10)", "1(10)"), ("0(01)", "(01)")):
            with self.subTest(text):
                self.assertEqual(str(swap.of(read_endless(text))), told)

    def test_rows_under_each_head_of_all_small_tables(self):
        for rows in SMALL:
            swap = Swap(rows)
            for row in ROWS:
                told = swap.of(row)
                self.assertIsInstance(told, Endless)
                self.assertEqual(unrolled(told, 40), image(rows, unrolled(row, 50))[:40])

    def test_deep(self):
        swap = Swap(list(zip(comb(61), comb(61, "0"))))
        self.assertEqual(str(swap.of(Endless("1" * 60, "0"))), "(0)")
        self.assertEqual(str(swap.of(Endless("", "1"))), "0" * 60 + "(1)")
        self.assertEqual(str(swap.of(read_endless("1" * 59 + "0(10)"))), "0" * 59 + "1(10)")
        self.assertEqual(str(swap.of(read_endless("0" * 300 + "(1)"))), "1" + "0" * 299 + "(1)")

    def test_beyond_longest(self):
        swap = Swap([("0", "11"), ("10", "10"), ("11", "0")])
        self.assertEqual(str(swap.of(Endless("0" * 60, "1"))), "11" + "0" * 59 + "(1)")
        self.assertEqual(str(swap.within("1" * 60).of(read_endless("1" * 60 + "0(10)"))), "1" * 62 + "(10)")


class Leads(unittest.TestCase):
    def test_ordinary(self):
        swap = Swap([("00", "0"), ("01", "10"), ("1", "11")])
        for head, told in (("00", "0"), ("01", "10"), ("1", "11"), ("000", "00"), ("0110", "1010"), ("10", "110"),
                           ("0", None), ("", None)):
            with self.subTest(head):
                self.assertEqual(swap.leads(head), told)

    def test_the_one_that_leaves_all(self):
        for head in words(3) + ["0" * 60]:
            self.assertEqual(Swap().leads(head), head)

    def test_all_small_tables(self):
        for rows in SMALL:
            swap = Swap(rows)
            for head in words(4):
                self.assertEqual(swap.leads(head), led_to(maker(rows), head, 6), (rows, head))

    def test_longest(self):
        swap = Swap([("0", "11"), ("10", "10"), ("11", "0")])
        self.assertEqual(swap.leads("0" * 60), "11" + "0" * 59)
        self.assertEqual(swap.leads(head="1" * 60), "0" + "1" * 58)

    def test_bad_heads(self):
        for text in NO_HEADS:
            with self.subTest(text), self.assertRaises(BadHead):
                Swap([("0", "1"), ("1", "0")]).leads(text)


class Then(unittest.TestCase):
    def test_all_pairs_of_small_tables(self):
        for one, other in itertools.product(SMALL, repeat=2):
            told = Swap(one).then(Swap(other))
            self.assertEqual(told.rows(), fewest_table(maker(one, other), 6), (one, other))

    def test_the_first_one_is_done_first(self):
        one, other = Swap([("0", "1"), ("1", "0")]), Swap([("00", "0"), ("01", "10"), ("1", "11")])
        self.assertEqual(str(one.then(other)), "{0>11 10>0 11>10}")
        self.assertEqual(str(other.then(one)), "{00>1 01>00 1>01}")
        self.assertEqual(one.then(other=one), Swap())

    def test_too_great(self):
        wide = Swap(wide_rows(64))
        inner = Swap([("0000000", "0000001"), ("0000001", "0000000")] + [(word, word) for word in long_words(6)[1:]])
        with self.assertRaises(TooGreat):
            wide.then(inner)
        with self.assertRaises(TooGreat):
            inner.then(wide)
        twice = doubling(40)
        with self.assertRaises(TooGreat):
            twice.then(twice)
        self.assertEqual(len(twice), 41)

    def test_what_lies_between_does_not_count(self):
        wide = Swap(wide_rows(64))
        self.assertEqual(wide.then(wide), Swap())
        deep = Swap(list(zip(comb(61), comb(61, "0"))))
        self.assertEqual(deep.then(deep.back()), Swap())

    def test_just_not_too_great(self):
        half = [("0" + word, "0" + word[::-1]) for word in long_words(5)]
        one = Swap(half + [("1", "1")])
        other = Swap([("0", "0")] + [("1" + head[1:], "1" + tail[1:]) for head, tail in half])
        self.assertEqual((len(one), len(other)), (33, 33))
        self.assertEqual(len(one.then(other)), 64)


class Back(unittest.TestCase):
    def test_all_small_tables(self):
        for rows in tables(4)[::3]:
            swap = Swap(rows)
            self.assertEqual(swap.back().rows(), fewest_table(maker(turned(rows)), 5), rows)
            self.assertEqual(swap.then(swap.back()), Swap())
            self.assertEqual(swap.back().back(), swap)

    def test_ordinary(self):
        self.assertEqual(str(Swap([("00", "0"), ("01", "10"), ("1", "11")]).back()), "{0>00 10>01 11>1}")
        self.assertEqual(Swap().back(), Swap())

    def test_great(self):
        wide = Swap([(word, word[1:] + word[0]) for word in long_words(6)])
        self.assertEqual(wide.back().rows(), [(word, word[-1] + word[:-1]) for word in long_words(6)])


class Power(unittest.TestCase):
    def test_all_small_tables(self):
        for rows in SMALL:
            swap = Swap(rows)
            for many in (-3, -2, -1, 0, 1, 2, 3):
                step = rows if many > 0 else turned(rows)
                self.assertEqual(swap.power(many).rows(), fewest_table(maker(*[step] * abs(many)), 8), (rows, many))

    def test_step_by_step(self):
        swap = Swap([("00", "0"), ("01", "10"), ("1", "11")])
        told = Swap()
        for many in range(61):
            self.assertEqual(swap.power(many), told)
            self.assertEqual(swap.power(-many), told.back())
            self.assertEqual(len(told), many + 2 if many else 1)
            told = told.then(swap)

    def test_beyond(self):
        swap = Swap([("0", "1"), ("1", "0")])
        self.assertEqual((swap.power(60), swap.power(-60), swap.power(59), swap.power(-59)),
                         (Swap(), Swap(), swap, swap))
        for many in (61, -61, 62, 100, -100, 10 ** 24, -10 ** 24):
            with self.subTest(many), self.assertRaises(BadNumber):
                swap.power(many)
            with self.subTest(many), self.assertRaises(BadNumber):
                Swap().power(many=many)

    def test_a_bad_number_goes_ahead_of_too_great(self):
        with self.assertRaises(BadNumber):
            doubling(40).power(62)

    def test_too_great(self):
        swap = Swap([("000", "0"), ("001", "10"), ("01", "110"), ("1", "111")])
        self.assertEqual(len(swap.power(31)), 64)
        self.assertEqual(len(swap.power(-31)), 64)
        for many in (32, 33, 60, -32, -60):
            with self.subTest(many), self.assertRaises(TooGreat):
                swap.power(many)

    def test_what_lies_between_does_not_count(self):
        swap = doubling(40)
        for many in (2, 6, 58, -2, -54):
            with self.subTest(many), self.assertRaises(TooGreat):
                swap.power(many)
        for many in (4, 8, 56, 60, -4, -60):
            self.assertEqual(swap.power(many), Swap(), many)
        for many in (5, 57, -3, -59):
            self.assertEqual(swap.power(many), swap, many)
        for many in (3, 59, -1, -57):
            self.assertEqual(swap.power(many), swap.back(), many)


class Seen(unittest.TestCase):
    def test_all_pairs_of_small_tables(self):
        for one, other in itertools.product(SMALL, repeat=2):
            told = Swap(one).seen(Swap(other))
            self.assertEqual(told.rows(), fewest_table(maker(turned(other), one, other), 8), (one, other))

    def test_ordinary(self):
        one, other = Swap([("00", "01"), ("01", "00"), ("1", "1")]), Swap([("00", "0"), ("01", "10"), ("1", "11")])
        self.assertEqual(str(one.seen(other)), "{0>10 10>0 11>11}")
        self.assertEqual(str(other.seen(other=one)), "{00>10 010>01 011>00 1>11}")
        self.assertEqual(one.seen(one), one)

    def test_too_great(self):
        wide = Swap(wide_rows(64))
        self.assertEqual(len(plain("00", "01").seen(wide)), 64)
        for one, other, many in (("0000000", "0000001", 64), ("00000", "0011000", 65)):
            through = plain(one, other)
            told = fewest_table(maker(through.rows(), wide.rows(), through.rows()), 9)
            if many > 64:
                with self.assertRaises(TooGreat):
                    wide.seen(through)
            else:
                self.assertEqual(wide.seen(through).rows(), told)
            self.assertEqual(len(told), many)

    def test_what_lies_between_does_not_count(self):
        swap = doubling(40)
        with self.assertRaises(TooGreat):
            swap.back().then(swap.back())
        self.assertEqual(swap.back().seen(swap), swap.back())
        self.assertEqual(Swap().seen(swap), Swap())
        with self.assertRaises(TooGreat):
            swap.then(swap)
        self.assertEqual(swap.seen(swap.back()), swap)


class Within(unittest.TestCase):
    def test_all_small_tables(self):
        for rows in SMALL:
            for head in words(3):
                def make(word):
                    return head + image(rows, word[len(head):]) if word.startswith(head) else word
                self.assertEqual(Swap(rows).within(head).rows(), fewest_table(make, len(head) + 3), (rows, head))

    def test_ordinary(self):
        swap = Swap([("0", "1"), ("1", "0")])
        self.assertEqual(str(swap.within("01")), "{00>00 010>011 011>010 1>1}")
        self.assertEqual(swap.within(head=""), swap)

    def test_long_heads(self):
        swap = Swap([("0", "1"), ("1", "0")])
        for head in ("0" * 60, "1" * 60, "01" * 30):
            told = swap.within(head)
            self.assertEqual(len(told), 62)
            self.assertIn((head + "0", head + "1"), told.rows())
            self.assertIn((head + "1", head + "0"), told.rows())
            self.assertEqual(told.power(2), Swap())
            self.assertEqual(Swap().within(head), Swap())

    def test_too_great(self):
        four = Swap([("00", "0"), ("01", "10"), ("10", "110"), ("11", "111")][::-1])
        self.assertEqual(len(four), 3)
        four = Swap([("00", "01"), ("01", "00"), ("10", "11"), ("11", "10")])
        self.assertEqual(len(four.within("0" * 60)), 64)
        five = Swap([("00", "01"), ("01", "00"), ("10", "11"), ("110", "101"), ("111", "100")])
        self.assertEqual(len(five), 5)
        self.assertEqual(len(five.within("0" * 59)), 64)
        with self.assertRaises(TooGreat):
            five.within("0" * 60)
        with self.assertRaises(TooGreat):
            four.within("0" * 60).within("1")
        self.assertEqual(four.within("0" * 60).within(""), four.within("0" * 60))

    def test_bad_heads(self):
        for text in NO_HEADS:
            for swap in (Swap(), Swap(wide_rows(64))):
                with self.subTest(text), self.assertRaises(BadHead):
                    swap.within(text)


class Fixed(unittest.TestCase):
    def test_all_small_tables(self):
        for rows in tables(4)[::2]:
            told = Swap(rows).fixed()
            self.assertIs(type(told), list)
            still = {word for word in long_words(6) if any(head == other for head, other in
                                                           [(word[:many], led_to(maker(rows), word[:many], 6))
                                                            for many in range(5)])}
            self.assertEqual({word for word in long_words(6) if any(word.startswith(head) for head in told)}, still)
            self.assertEqual(told, sorted(told))
            self.assertFalse(any(head + "0" in told and head + "1" in told for head in words(5)))

    def test_ordinary(self):
        self.assertEqual(Swap().fixed(), [""])
        self.assertEqual(Swap([("0", "1"), ("1", "0")]).fixed(), [])
        self.assertEqual(Swap([("00", "01"), ("01", "00"), ("10", "10"), ("11", "11")]).fixed(), ["1"])
        self.assertEqual(Swap([("0", "00"), ("10", "01"), ("11", "1")]).fixed(), [])
        self.assertEqual(plain("010", "10").fixed(), ["00", "011", "11"])


class Parted(unittest.TestCase):
    def test_all_pairs_of_small_tables(self):
        made = [Swap(rows) for rows in SMALL]
        for one, other in itertools.product(made, repeat=2):
            told = one.parted(other)
            self.assertEqual(told is None, one == other)
            if told is not None:
                self.assertIsInstance(told, Endless)
                self.assertEqual(read_endless(str(told)), told)
                self.assertFalse(one.of(told) == other.of(told), (one, other, told))

    def test_one_below_the_other_one(self):
        leave = Swap()
        for more in ("0", "1", "00", "01", "10", "11", "000", "0101"):
            others = ["0" + more[:at] + "01"[more[at] == "0"] for at in range(len(more))] + ["1"]
            swap = Swap([("0", "0" + more)] + [("1" + head, other) for head, other in zip(comb(len(others)), others)])
            for told in (swap.parted(leave), leave.parted(swap)):
                self.assertEqual(read_endless(str(told)), told)
                self.assertFalse(swap.of(told) == told, more)

    def test_the_same(self):
        self.assertIsNone(Swap().parted(Swap()))
        self.assertIsNone(Swap(wide_rows(64)).parted(other=Swap(wide_rows(64)[::-1])))

    def test_deep(self):
        one = Swap([("0", "1"), ("1", "0")]).within("01" * 30)
        for told in (one.parted(Swap()), Swap().parted(one)):
            self.assertEqual(unrolled(told, 60), "01" * 30)
            self.assertFalse(one.of(told) == told)


class Plain(unittest.TestCase):
    def test_all_short_heads(self):
        for one, other in itertools.product(words(3), repeat=2):
            if not_apart(one, other):
                with self.assertRaises(NotApart):
                    plain(one, other)
                continue

            def make(word):
                for begin, end in ((one, other), (other, one)):
                    if word.startswith(begin):
                        return end + word[len(begin):]
                return word
            told = plain(one, other)
            self.assertIsInstance(told, Swap)
            self.assertEqual(told.rows(), fewest_table(make, 6), (one, other))

    def test_by_name(self):
        self.assertEqual(str(plain(other="01", one="1")), "{00>00 01>1 1>01}")

    def test_bad_heads(self):
        for text in NO_HEADS:
            for one, other in ((text, "0"), ("0", text), (text, ""), ("", text), (text, text)):
                with self.subTest((one, other)), self.assertRaises(BadHead):
                    plain(one, other)

    def test_too_great(self):
        self.assertEqual(len(plain("0" * 32, "1" * 32)), 64)
        self.assertEqual(len(plain("0" * 60, "1" * 4)), 64)
        self.assertEqual(len(plain("0" * 60, "0" * 59 + "1")), 61)
        for one, other in (("0" * 33, "1" * 32), ("0" * 60, "1" * 5), ("0" * 60, "1" * 60)):
            with self.subTest((one, other)), self.assertRaises(TooGreat):
                plain(one, other)


class Interface(unittest.TestCase):
    def test_arguments(self):
        self.assertEqual(str(inspect.signature(plain)), "(one, other)")
        self.assertEqual(str(inspect.signature(Swap)), "(rows=(('', ''),))")
        for name, told in (("rows", "(self)"), ("of", "(self, row)"), ("leads", "(self, head)"),
                           ("then", "(self, other)"), ("back", "(self)"), ("power", "(self, many)"),
                           ("seen", "(self, other)"), ("within", "(self, head)"), ("fixed", "(self)"),
                           ("parted", "(self, other)"), ("__eq__", "(self, other)"), ("__len__", "(self)"),
                           ("__str__", "(self)"), ("__repr__", "(self)")):
            self.assertIn(name, vars(swaps.Swap))
            self.assertEqual(str(inspect.signature(getattr(Swap, name))), told, name)


if __name__ == "__main__":
    unittest.main()

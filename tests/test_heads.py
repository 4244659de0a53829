"""Promises [1] to [3]: heads, cuts, the fewest heads, the common cut."""

import inspect
import itertools
import unittest

from headswap import heads
from headswap.errors import BadHead
from headswap.heads import LONGEST, apart, common, fault, fewest, is_head
from helping import NO_HEADS, cuts, long_words, not_apart, words


def is_cut(some, deep):
    return all(sum(row[:len(head)] == head for head in some) == 1 for row in long_words(deep))


def rows_under(some, deep):
    return {row for row in long_words(deep) if any(row[:len(head)] == head for head in some)}


class IsHead(unittest.TestCase):
    def test_longest(self):
        self.assertEqual(LONGEST, 60)

    def test_heads(self):
        for text in ("", "0", "1", "01", "10", "0011", "0" * 60, "1" * 60, "01" * 30):
            with self.subTest(text):
                self.assertIs(is_head(text), True)

    def test_none(self):
        for text in NO_HEADS:
            with self.subTest(text):
                self.assertIs(is_head(text), False)

    def test_by_name(self):
        self.assertIs(is_head(text="01"), True)

    def test_every_other_sign(self):
        for code in [10, *range(32, 127)]:
            sign = chr(code)
            for text in (sign, "0" + sign, sign + "1", "0" + sign + "1"):
                with self.subTest(text):
                    self.assertIs(is_head(text), sign in "01")


class Apart(unittest.TestCase):
    def test_ordinary(self):
        for one, other, told in (("0", "1", True), ("01", "00", True), ("010", "011", True), ("00", "1", True),
                                 ("0", "01", False), ("01", "0", False), ("01", "01", False), ("", "", False),
                                 ("", "1", False), ("1", "", False), ("10", "1011", False), ("1011", "10", False),
                                 ("101", "0101", True)):
            with self.subTest((one, other)):
                self.assertIs(apart(one, other), told)

    def test_all_short_ones(self):
        for one, other in itertools.product(words(4), repeat=2):
            self.assertIs(apart(one, other), not not_apart(one, other), (one, other))

    def test_longest(self):
        self.assertIs(apart("0" * 59 + "1", "0" * 60), True)
        self.assertIs(apart("0" * 59, "0" * 60), False)

    def test_first_is_none(self):
        for text in NO_HEADS:
            with self.subTest(text), self.assertRaises(BadHead):
                apart(text, "0")

    def test_second_is_none(self):
        for text in NO_HEADS:
            with self.subTest(text), self.assertRaises(BadHead):
                apart("0", text)

    def test_second_is_none_though_it_begins_alike(self):
        for one, other in (("0", "0x"), ("1", "0x"), ("", "x"), ("0", "0" * 61)):
            with self.subTest((one, other)), self.assertRaises(BadHead):
                apart(one, other)
            with self.subTest((other, one)), self.assertRaises(BadHead):
                apart(other, one)

    def test_both_are_none(self):
        with self.assertRaises(BadHead):
            apart("2", "3")

    def test_by_name(self):
        self.assertIs(apart(other="0", one="1"), True)


class Fault(unittest.TestCase):
    def look(self, some):
        """What is told must be true of the list; which of several faults is told is free."""
        handed = list(some)
        told = fault(handed)
        self.assertEqual(handed, list(some))
        if told is None:
            return "cut"
        self.assertIs(type(told), tuple)
        if told[0] == "both":
            word, one, other = told
            self.assertTrue(0 <= one < other < len(some), (some, told))
            self.assertTrue(not_apart(some[one], some[other]), (some, told))
            return "both"
        word, head = told
        self.assertEqual(word, "none")
        self.assertTrue(is_head(head), (some, told))
        self.assertFalse(any(not_apart(head, one) for one in some), (some, told))
        return "none"

    def test_all_cuts_in_any_order(self):
        for cut in cuts(3):
            self.assertIsNone(fault(cut), cut)
            self.assertIsNone(fault(cut[::-1]), cut)
            self.assertIsNone(fault(cut[1::2] + cut[::2]), cut)

    def test_a_cut_in_all_orders(self):
        for some in itertools.permutations(["00", "010", "011", "10", "11"]):
            self.assertIsNone(fault(list(some)), some)

    def test_short_lists(self):
        for many in range(5):
            for some in itertools.product(words(2), repeat=many):
                self.assertEqual(self.look(list(some)) == "cut", is_cut(some, 2), some)

    def test_lists_without_one_head(self):
        for cut in cuts(3):
            for at in range(len(cut)):
                some = cut[:at] + cut[at + 1:]
                self.assertEqual(self.look(some), "none", some)
                self.assertEqual(fault(some), ("none", fault(some)[1]))

    def test_lists_with_a_head_twice(self):
        for cut in cuts(3):
            for at in range(len(cut)):
                for to in range(len(cut) + 1):
                    some = cut[:to] + [cut[at]] + cut[to:]
                    self.assertEqual(self.look(some), "both", some)

    def test_lists_with_one_below_another_one(self):
        for cut in cuts(2):
            for head in cut:
                for more in ("0", "1", "01", "11"):
                    self.assertEqual(self.look(cut + [head + more]), "both")
                    self.assertEqual(self.look([head + more] + cut), "both")

    def test_the_only_two(self):
        self.assertEqual(fault(["0", "10", "11", "10"]), ("both", 1, 3))
        self.assertEqual(fault(["100", "0", "11", "10"]), ("both", 0, 3))
        self.assertEqual(fault(["11", "10", "0", "101"]), ("both", 1, 3))

    def test_the_only_head_left_out(self):
        self.assertEqual(fault([]), ("none", ""))
        self.assertEqual(fault(["1" * 60] + ["1" * many + "0" for many in range(59)]), ("none", "1" * 59 + "0"))
        self.assertEqual(fault(["0" * many + "1" for many in range(60)]), ("none", "0" * 60))

    def test_a_head_alone(self):
        self.assertIsNone(fault([""]))
        for head in words(4)[1:] + ["0" * 60, "1" * 60, "01" * 30]:
            self.assertEqual(self.look([head]), "none")

    def test_deep_cuts(self):
        comb = ["1" * many + "0" for many in range(60)]
        self.assertIsNone(fault(comb + ["1" * 60]))
        self.assertIsNone(fault((comb + ["1" * 60])[::-1]))
        self.assertEqual(self.look(comb), "none")
        self.assertEqual(self.look(comb + ["1" * 60, "1" * 60]), "both")

    def test_wide_cuts(self):
        wide = long_words(8)
        self.assertIsNone(fault(wide))
        self.assertEqual(self.look(wide[:77] + wide[78:]), "none")
        self.assertEqual(self.look(wide[1:] + wide[1:40]), "both")

    def test_bad_heads(self):
        for text in NO_HEADS:
            for some in ([text], ["0", text], [text, "0"], ["0", "1", text], ["0", "0", text], ["", text]):
                with self.subTest(some), self.assertRaises(BadHead):
                    fault(some)

    def test_asked_again(self):
        some = ["1", "00"]
        self.assertEqual(fault(some), fault(some))
        self.assertEqual(some, ["1", "00"])

    def test_by_name(self):
        self.assertIsNone(fault(heads=["1", "0"]))


class Fewest(unittest.TestCase):
    def test_ordinary(self):
        for some, told in (([], []), ([""], [""]), (["0"], ["0"]), (["1", "0"], [""]), (["00", "01"], ["0"]),
                           (["00", "10"], ["00", "10"]), (["01", "10"], ["01", "10"]),
                           (["11", "00", "10"], ["00", "1"]), (["11", "01", "10", "00"], [""]),
                           (["001", "010", "000"], ["00", "010"]), (["1", "011", "010"], ["01", "1"])):
            with self.subTest(some):
                self.assertEqual(fewest(some), told)

    def test_all_that_are_apart(self):
        for cut in cuts(3):
            for chosen in itertools.product((False, True), repeat=len(cut)):
                some = [head for head, take in zip(cut, chosen) if take]
                for order in (some, some[::-1], some[1::2] + some[::2]):
                    handed = list(order)
                    told = fewest(handed)
                    self.assertEqual(handed, order)
                    self.assertEqual(told, sorted(told))
                    self.assertEqual(rows_under(told, 3), rows_under(some, 3))
                    self.assertEqual(sum(8 >> len(head) for head in told), len(rows_under(some, 3)))
                    self.assertFalse(any(head + "0" in told and head + "1" in told for head in words(2)))

    def test_beyond_longest(self):
        deep = "01" * 1000
        self.assertEqual(fewest([deep + "1", deep + "0"]), [deep])
        self.assertEqual(fewest(["1" * 61, "0" * 62]), ["0" * 62, "1" * 61])
        comb = ["1" * many + "0" for many in range(200)]
        self.assertEqual(fewest(comb + ["1" * 200]), [""])
        self.assertEqual(fewest(["1" * 200] + comb[1:]), ["1"])
        self.assertEqual(fewest(comb), comb)

    def test_many(self):
        self.assertEqual(fewest(long_words(8)), [""])
        self.assertEqual(fewest(long_words(8)[:-1]), ["1" * many + "0" for many in range(8)])

    def test_the_handed_list_stays(self):
        for some in ([], [""], ["1", "0"], ["0", "1"], ["11", "00"], ["00", "11"]):
            handed = list(some)
            told = fewest(handed)
            self.assertEqual(handed, some)
            self.assertIsNot(told, handed)
            self.assertIs(type(told), list)

    def test_a_told_list_is_new(self):
        handed = ["00", "11"]
        told = fewest(handed)
        told.append("x")
        told[0] = "y"
        self.assertEqual(handed, ["00", "11"])
        self.assertEqual(fewest(handed), ["00", "11"])
        empty = fewest([])
        empty.append("x")
        self.assertEqual(fewest([]), [])

    def test_by_name(self):
        self.assertEqual(fewest(heads=["1", "0"]), [""])


class Common(unittest.TestCase):
    def test_ordinary(self):
        for one, other, told in (([""], [""], [""]), ([""], ["0", "1"], ["0", "1"]), (["1", "0"], [""], ["0", "1"]),
                                 (["0", "10", "11"], ["00", "01", "1"], ["00", "01", "10", "11"]),
                                 (["11", "10", "0"], ["1", "0"], ["0", "10", "11"]),
                                 (["1", "011", "00", "010"], ["0", "11", "10"], ["00", "010", "011", "10", "11"])):
            with self.subTest((one, other)):
                self.assertEqual(common(one, other), told)

    def test_all_pairs(self):
        for one, other in itertools.product(cuts(3), repeat=2):
            told = common(one[::-1], other[1::2] + other[::2])
            self.assertEqual(told, sorted(told))
            self.assertTrue(is_cut(told, 3))
            for head in told:
                self.assertTrue(any(head.startswith(above) for above in one))
                self.assertTrue(any(head.startswith(above) for above in other))
                self.assertTrue(head in one or head in other)

    def test_beyond_longest(self):
        comb = ["1" * many + "0" for many in range(100)] + ["1" * 100]
        back = ["0" * many + "1" for many in range(100)] + ["0" * 100]
        self.assertEqual(common(comb, [""]), sorted(comb))
        self.assertEqual(common(["0", "1"], comb[::-1]), sorted(comb))
        self.assertEqual(common(comb, back), sorted(comb[1:] + back[1:]))

    def test_the_handed_lists_stay(self):
        one, other = ["1", "0"], ["11", "0", "10"]
        common(one, other)
        self.assertEqual((one, other), (["1", "0"], ["11", "0", "10"]))

    def test_a_told_list_is_new(self):
        one, other = ["0", "1"], ["0", "1"]
        told = common(one, other)
        self.assertIs(type(told), list)
        self.assertIsNot(told, one)
        self.assertIsNot(told, other)
        told.clear()
        self.assertEqual(common(one, other), ["0", "1"])
        self.assertEqual((one, other), (["0", "1"], ["0", "1"]))

    def test_a_cut_with_itself(self):
        cut = ["1", "0"]
        self.assertEqual(common(cut, cut), ["0", "1"])
        self.assertEqual(cut, ["1", "0"])

    def test_by_name(self):
        self.assertEqual(common(other=[""], one=["1", "0"]), ["0", "1"])


class Interface(unittest.TestCase):
    def test_arguments(self):
        for name, told in (("is_head", "(text)"), ("apart", "(one, other)"), ("fault", "(heads)"),
                           ("fewest", "(heads)"), ("common", "(one, other)")):
            self.assertEqual(str(inspect.signature(getattr(heads, name))), told, name)


if __name__ == "__main__":
    unittest.main()

"""Promises [1], [5] and [7]: exchanges as plain ones, and plain ones done one behind another."""

import inspect
import itertools
import random
import unittest

from headswap.errors import BadHead, NotApart, TooGreat
from headswap.plains import done, plains
from headswap.swaps import Swap, plain
from helping import OTHER_SIGNS, comb, doubling, fewest_table, long_words, not_apart, tables, wide_rows, words


def exchanged(word, pairs):
    """What plain ones, one behind another, make of a word that is long enough."""
    for one, other in pairs:
        if word.startswith(one):
            word = other + word[len(one):]
        elif word.startswith(other):
            word = one + word[len(other):]
    return word


def turn(head):
    return head.replace("0", "x").replace("1", "0").replace("x", "1")


class Plains(unittest.TestCase):
    def look(self, swap, deep):
        told = plains(swap)
        self.assertIs(type(told), list)
        self.assertLessEqual(len(told), 7 * (len(swap) - 1))
        for pair in told:
            self.assertIs(type(pair), tuple)
            one, other = pair
            self.assertEqual((one + other).strip("01"), "")
            self.assertFalse(not_apart(one, other), pair)
        self.assertEqual(done(told), swap)
        if deep:
            self.assertEqual(fewest_table(lambda word: exchanged(word, told), deep), swap.rows())

    def test_all_small_ones(self):
        for rows in tables(4):
            self.look(Swap(rows), 7)

    def test_none_for_the_one_that_leaves_all(self):
        self.assertEqual(plains(Swap()), [])
        self.assertEqual(plains(Swap([("1", "1"), ("0", "0")])), [])
        self.assertEqual(done([]), Swap())

    def test_great_ones(self):
        self.look(Swap(wide_rows(64)), 9)
        self.look(doubling(40), 0)
        self.look(Swap(list(zip(comb(61), comb(61, "0")))), 0)
        self.look(Swap(list(zip(sorted(comb(61)), comb(61, "0")))), 0)
        self.look(Swap([("00", "01"), ("01", "00"), ("10", "11"), ("11", "10")]).within("01" * 30), 0)
        self.look(plain("0" * 32, "1" * 32), 0)

    def test_any_ones(self):
        chance = random.Random(7)
        for many in (5, 6, 7, 9, 12, 17, 33, 64) * 3:
            cuts = []
            for side in range(2):
                cut = [""]
                while len(cut) < many:
                    head = cut.pop(chance.randrange(len(cut)))
                    cut += [head + "0", head + "1"]
                cuts.append(cut)
            chance.shuffle(cuts[1])
            self.look(Swap(list(zip(*cuts))), 0)

    def test_a_told_list_is_new(self):
        swap = Swap([("0", "1"), ("1", "0")])
        told = plains(swap)
        told.append("x")
        self.assertEqual(done(plains(swap=swap)), swap)
        nothing = plains(Swap())
        nothing.append("x")
        self.assertEqual(plains(Swap()), [])
        self.assertEqual(str(swap), "{0>1 1>0}")

    def test_asked_again(self):
        swap = Swap(wide_rows(64))
        self.assertEqual(plains(swap), plains(Swap(wide_rows(64)[::-1])))


class Done(unittest.TestCase):
    def test_no_pairs(self):
        self.assertEqual(done([]), Swap())
        self.assertEqual(done(()), Swap())

    def test_one_pair(self):
        for one, other in itertools.product(words(3), repeat=2):
            if not not_apart(one, other):
                self.assertEqual(done([(one, other)]), plain(one, other))

    def test_two_pairs(self):
        pairs = [pair for pair in itertools.product(words(2), repeat=2) if not not_apart(*pair)]
        for some in itertools.product(pairs, repeat=2):
            self.assertEqual(done(some).rows(), fewest_table(lambda word: exchanged(word, some), 7), some)

    def test_many_pairs(self):
        chance = random.Random(3)
        heads = words(3)[1:]
        for many in (3, 4, 5, 8) * 10:
            some = []
            while len(some) < many:
                pair = (chance.choice(heads), chance.choice(heads))
                if not not_apart(*pair):
                    some.append(pair)
            make = Swap()
            for one, other in some:
                make = make.then(plain(one, other))
            self.assertEqual(done(some), make, some)
            self.assertEqual(done(some + some[::-1]), Swap(), some)

    def test_the_first_one_is_done_first(self):
        self.assertEqual(str(done([("00", "01"), ("0", "1")])), "{00>11 01>10 1>0}")
        self.assertEqual(str(done([("0", "1"), ("00", "01")])), "{0>1 10>01 11>00}")

    def test_lists_and_tuples(self):
        for pairs in ([["0", "1"]], (("0", "1"),), [("0", "1")], (["0", "1"],)):
            self.assertEqual(str(done(pairs=pairs)), "{0>1 1>0}")

    def test_the_handed_list_stays(self):
        pairs = [["00", "1"], ["0", "1"]]
        done(pairs)
        self.assertEqual(pairs, [["00", "1"], ["0", "1"]])

    def test_heads_of_any_length(self):
        for many in (61, 62, 63, 100, 1000, 4000):
            deep = "01" * (many // 2) + "1" * (many % 2)
            other = "1" + deep[1:]
            with self.subTest(many):
                self.assertEqual(done([(deep, other), (other, deep)]), Swap())
                self.assertEqual(str(done([(deep, other), ("0", "1"), (deep, other)])), "{0>1 1>0}")
                self.assertEqual(done([(deep, other), ("0", "1"), ("0", "1"), (deep, other)]), Swap())
                with self.assertRaises(TooGreat):
                    done([(deep, other)])
                with self.assertRaises(TooGreat):
                    done([("0", "1"), (deep, other)])

    def test_deep_ones_that_are_not_too_great(self):
        self.assertEqual(len(done([("0" * 62 + "0", "0" * 62 + "1")])), 64)
        with self.assertRaises(TooGreat):
            done([("0" * 63 + "0", "0" * 63 + "1")])
        self.assertEqual(done([("0" * 63, "0" * 62 + "1")]), plain("0", "1").within("00").within("0" * 60))

    def test_just_too_great(self):
        self.assertEqual(len(done([("0" * 32, "1" * 32)])), 64)
        with self.assertRaises(TooGreat):
            done([("0" * 33, "1" * 32)])
        self.assertEqual(len(done([("0" * 59, "1" * 5)])), 64)
        with self.assertRaises(TooGreat):
            done([("0" * 59, "1" * 6)])

    def test_what_lies_between_does_not_count(self):
        deep = [("0" * 40, "1" * 40), ("01" * 30, "10" * 30)]
        self.assertEqual(done(deep + deep[::-1]), Swap())
        self.assertEqual(done([("0" * 40, "1" + "0" * 39), ("0", "1"), ("0" * 40, "1" + "0" * 39)]), plain("0", "1"))
        twice = plains(doubling(40))
        with self.assertRaises(TooGreat):
            done(twice * 2)
        self.assertEqual(done(twice * 4), Swap())

    def test_many_long_ones(self):
        chance = random.Random(11)
        some = []
        for each in range(150):
            head = "".join(chance.choice("01") for sign in range(4000))
            some.append((head, turn(head)))
        with self.assertRaises(TooGreat):
            done(some)
        self.assertEqual(done(some + some[::-1]), Swap())

    def test_heads_that_are_all_taken_away(self):
        # The two halves of a head go to places of which they come back as one, though nothing was done to the whole.
        pairs = [("00", "10"), ("01", "11")]
        self.assertEqual(str(done(pairs)), "{0>1 1>0}")
        self.assertEqual(str(done([(word, turn(word)) for word in long_words(6)[:32]])),
                         str(Swap([(word, turn(word)) for word in long_words(6)])))
        halves = [("0" * 32 + sign, "1" * 32 + sign) for sign in "01"]
        self.assertEqual(done(halves), plain("0" * 32, "1" * 32))
        deep = [("0" * 70 + sign, "1" * 70 + sign) for sign in "01"]
        self.assertEqual(done(deep + [("0" * 70, "1" * 70)]), Swap())

    def test_bad_heads(self):
        for text in OTHER_SIGNS:
            for pairs in ([(text, "0")], [("0", text)], [(text, text)], [("0", "1"), (text, "0")], [("", text)],
                          [("0", "1"), ("1", text)], [("1" * 100, "0" * 100), (text, "0")], [(text, "")]):
                with self.subTest(pairs), self.assertRaises(BadHead):
                    done(pairs)

    def test_not_apart(self):
        for one, other in (("", ""), ("0", "0"), ("0", "01"), ("01", "0"), ("", "1"), ("1", ""),
                           ("0" * 61, "0" * 100), ("0" * 100, "0" * 61), ("0" * 100, "0" * 100)):
            for pairs in ([(one, other)], [("0", "1"), (one, other)], [("0" * 100, "1" * 100), (one, other)]):
                with self.subTest(pairs), self.assertRaises(NotApart):
                    done(pairs)

    def test_pair_by_pair(self):
        with self.assertRaises(NotApart):
            done([("0", "0"), ("x", "1")])
        with self.assertRaises(BadHead):
            done([("x", "1"), ("0", "0")])
        with self.assertRaises(BadHead):
            done([("0", "1"), ("0", "0x"), ("0", "0")])
        with self.assertRaises(NotApart):
            done([("0" * 100, "1" * 100), ("0", "0")])


class Interface(unittest.TestCase):
    def test_arguments(self):
        self.assertEqual(str(inspect.signature(plains)), "(swap)")
        self.assertEqual(str(inspect.signature(done)), "(pairs)")


if __name__ == "__main__":
    unittest.main()

"""Promises [1] and [8]: what keeps the order, what keeps it round, and what shows that it does not."""

import inspect
import itertools
import unittest

from headswap.keeping import keeps, order_fault, round_fault
from headswap.swaps import Swap, plain
from helping import comb, image, long_words, tables, wide_rows

ROUND = ("abc", "bca", "cab")

# rows, what they keep, the only pair and the only three that show the fault (None: there is none; "?": several)
TOLD = (
    ([("", "")], "order", None, None),
    ([("0", "1"), ("1", "0")], "round", ("0", "1"), None),
    ([("00", "0"), ("01", "10"), ("1", "11")], "order", None, None),
    ([("0", "00"), ("10", "01"), ("11", "1")], "order", None, None),
    ([("0", "10"), ("10", "11"), ("11", "0")], "round", "?", None),
    ([("00", "1"), ("01", "00"), ("1", "01")], "round", "?", None),
    ([("00", "01"), ("01", "00"), ("1", "1")], "none", ("00", "01"), ("00", "01", "1")),
    ([("0", "0"), ("10", "11"), ("11", "10")], "none", ("10", "11"), ("0", "10", "11")),
    ([("0", "10"), ("10", "0"), ("11", "11")], "none", ("0", "10"), ("0", "10", "11")),
    ([("0", "1"), ("10", "01"), ("11", "00")], "none", "?", ("0", "10", "11")),
    ([("00", "01"), ("01", "10"), ("10", "11"), ("11", "00")], "round", "?", None),
    ([("00", "11"), ("01", "00"), ("10", "01"), ("11", "10")], "round", "?", None),
    ([("00", "01"), ("01", "00"), ("10", "11"), ("11", "10")], "none", "?", "?"),
)


def stand(images):
    """How three images stand, begun with the least, by the letters of those that they are of."""
    return "".join(letter for word, letter in sorted(zip(images, "abc")))


def kept(rows, deep=5):
    """What is kept, by what becomes of each word so deep (words stand for rows; none begins another's image)."""
    made = [image(rows, word + "01") for word in long_words(deep)]
    if made == sorted(made):
        return "order"
    least = made.index(min(made))
    turned = made[least:] + made[:least]
    return "round" if turned == sorted(turned) else "none"


class Told(unittest.TestCase):
    def look(self, swap):
        """A fault that is told must be one; None is told just where nothing of the kind is there."""
        rows = swap.rows()
        heads = [head for head, other in rows]
        others = dict(rows)
        pair = order_fault(swap)
        three = round_fault(swap)
        if pair is None:
            self.assertEqual(list(others.values()), sorted(others.values()))
        else:
            self.assertIs(type(pair), tuple)
            self.assertEqual(len(pair), 2)
            self.assertTrue(set(pair) <= set(heads))
            self.assertLess(pair[0], pair[1])
            self.assertGreater(others[pair[0]], others[pair[1]])
        if three is None:
            for some in itertools.combinations(heads, 3):
                self.assertIn(stand([others[head] for head in some]), ROUND)
        else:
            self.assertIs(type(three), tuple)
            self.assertEqual(len(three), 3)
            self.assertTrue(set(three) <= set(heads))
            self.assertTrue(three[0] < three[1] < three[2])
            self.assertNotIn(stand([others[head] for head in three]), ROUND)
        return "order" if pair is None else "round" if three is None else "none"

    def test_told(self):
        for rows, word, pair, three in TOLD:
            with self.subTest(rows):
                swap = Swap(rows)
                self.assertEqual(keeps(swap), word)
                self.assertEqual(self.look(swap), word)
                if pair != "?":
                    self.assertEqual(order_fault(swap), pair)
                if three != "?":
                    self.assertEqual(round_fault(swap), three)

    def test_all_small_tables(self):
        words = set()
        for rows in tables(4):
            swap = Swap(rows)
            self.assertEqual(keeps(swap), kept(rows), rows)
            self.assertEqual(self.look(swap), keeps(swap), rows)
            words.add(keeps(swap))
        self.assertEqual(words, {"order", "round", "none"})

    def test_all_orders_of_five(self):
        cut = sorted(comb(5))
        for others in itertools.permutations(["00", "010", "011", "10", "11"]):
            swap = Swap(list(zip(cut, others)))
            self.assertEqual(self.look(swap), keeps(swap), others)
            self.assertEqual(keeps(swap), kept(swap.rows()), others)

    def test_great_ones(self):
        for swap, word in ((Swap(wide_rows(64)), "none"), (Swap(list(zip(comb(61), comb(61)))), "order"),
                           (Swap(list(zip(sorted(comb(61)), sorted(comb(61, "0"))))), "order"),
                           (plain("0" * 32, "1" * 32), "none"), (plain("0" * 60, "0" * 59 + "1"), "none")):
            self.assertEqual(keeps(swap), word)
            self.assertEqual(self.look(swap), word)
        cut = [word for word in long_words(6)]
        for step in (1, 20, 32, 63):
            swap = Swap(list(zip(cut, cut[step:] + cut[:step])))
            self.assertEqual(keeps(swap), "round")
            self.assertEqual(self.look(swap), "round")

    def test_asking_changes_nothing(self):
        swap = Swap([("00", "01"), ("01", "00"), ("1", "1")])
        for again in range(2):
            self.assertEqual((keeps(swap=swap), order_fault(swap=swap), round_fault(swap=swap)),
                             ("none", ("00", "01"), ("00", "01", "1")))
        self.assertEqual(str(swap), "{00>01 01>00 1>1}")


class Interface(unittest.TestCase):
    def test_arguments(self):
        for function in (keeps, order_fault, round_fault):
            self.assertEqual(str(inspect.signature(function)), "(swap)")


if __name__ == "__main__":
    unittest.main()

"""Promises [1] and [9]: reading endless rows sign by sign."""

import inspect
import itertools
import os.path
import unittest

from headswap.endless import Endless, read_endless
from headswap.errors import BadHead, NothingLeft
from headswap.reader import Reader
from headswap.swaps import Swap, plain
from helping import OTHER_SIGNS, comb, image, long_words, tables, wide_rows, words

MAIN = [("00", "0"), ("01", "10"), ("1", "11")]


def sure(rows, head):
    """The longest head above all that comes of a head with four signs behind it."""
    return os.path.commonprefix([image(rows, head + rest) for rest in long_words(4)])


class Put(unittest.TestCase):
    def test_ordinary(self):
        reader = Reader(Swap(MAIN))
        for signs, fresh, read, told in (("", "", "", ""), ("0", "", "0", ""), ("", "", "0", ""),
                                         ("1", "10", "01", "10"), ("1", "1", "011", "101"),
                                         ("0010", "0010", "0110010", "1010010")):
            self.assertEqual(reader.put(signs), fresh)
            self.assertEqual((reader.read(), reader.told(), len(reader)), (read, told, len(read)))

    def test_sure_ahead_of_the_head(self):
        reader = Reader(Swap([("00", "110"), ("01", "111"), ("10", "0"), ("11", "10")]))
        self.assertEqual([reader.put(sign) for sign in "010"], ["11", "1", "0"])
        reader = Reader(Swap([("00", "0"), ("010", "110"), ("011", "101"), ("10", "111"), ("11", "100")]))
        self.assertEqual([reader.put(sign) for sign in "0101"], ["", "1", "10", "1"])

    def test_a_new_one(self):
        for rows in ([("", "")], MAIN):
            reader = Reader(Swap(rows))
            self.assertEqual((reader.read(), reader.told(), len(reader)), ("", "", 0))

    def test_all_small_tables_sign_by_sign(self):
        for rows in tables(4)[::2]:
            swap = Swap(rows)
            for word in long_words(4):
                reader = Reader(swap)
                told = ""
                for at, sign in enumerate(word):
                    told += reader.put(sign)
                    self.assertEqual(told, sure(rows, word[:at + 1]), (rows, word))
                    self.assertEqual(reader.told(), told)
                    self.assertEqual(reader.read(), word[:at + 1])

    def test_all_small_tables_at_once(self):
        for rows in tables(3):
            for head in words(4):
                reader = Reader(Swap(rows))
                self.assertEqual(reader.put(head), sure(rows, head), (rows, head))
                self.assertEqual((reader.read(), reader.told()), (head, sure(rows, head)))

    def test_pieces(self):
        swap = Swap(wide_rows(64))
        word = "0110100110010110" * 4
        wanted = image(wide_rows(64), word)
        for step in (1, 2, 3, 5, 7, 16, 64):
            reader = Reader(swap)
            told = "".join(reader.put(word[at:at + step]) for at in range(0, 64, step))
            self.assertEqual((told, reader.told(), reader.read()), (wanted, wanted, word))

    def test_more_than_longest(self):
        reader = Reader(Swap(MAIN))
        self.assertEqual(reader.put("0" * 4000), "0" * 3999)
        self.assertEqual(reader.put("1" * 61), "1" * 61)
        self.assertEqual(len(reader), 4061)
        self.assertEqual(reader.told(), "0" * 3999 + "1" * 61)

    def test_as_the_exchange_does(self):
        for rows in tables(3):
            swap = Swap(rows)
            for row in (read_endless("(01)"), read_endless("001(110)"), Endless("11", "0")):
                reader = Reader(swap)
                told = reader.put(row.signs(many=30))
                self.assertEqual(swap.of(row).signs(many=len(told)), told)
                self.assertGreater(len(told), 25)

    def test_deep(self):
        reader = Reader(Swap(list(zip(comb(61), comb(61, "0")))))
        self.assertEqual([reader.put("1") for time in range(60)], ["0"] * 59 + ["0"])
        self.assertEqual(reader.put("01"), "01")
        reader = Reader(plain("0", "1").within("01" * 30))
        self.assertEqual(reader.put("01" * 30), "01" * 30)
        self.assertEqual(reader.put("0"), "1")

    def test_by_name(self):
        self.assertEqual(Reader(swap=Swap(MAIN)).put(signs="011"), "101")


class Refused(unittest.TestCase):
    def test_bad_heads(self):
        reader = Reader(Swap(MAIN))
        reader.put("0")
        reader.put("1")
        for text in OTHER_SIGNS:
            with self.subTest(text), self.assertRaises(BadHead):
                reader.put(text)
            self.assertEqual((reader.read(), reader.told(), len(reader)), ("01", "10", 2))
        self.assertEqual((reader.take(), reader.take()), ("1", "0"))
        with self.assertRaises(NothingLeft):
            reader.take()

    def test_a_bad_sign_behind_good_ones(self):
        reader = Reader(Swap(MAIN))
        for text in ("0110x", "x0", "0" * 4000 + "2", "01-"):
            with self.subTest(text), self.assertRaises(BadHead):
                reader.put(text)
            self.assertEqual((reader.read(), reader.told(), len(reader)), ("", "", 0))
            with self.assertRaises(NothingLeft):
                reader.take()


class Take(unittest.TestCase):
    def test_all_as_ahead_of_the_putting(self):
        reader = Reader(Swap(MAIN))
        states = []
        pieces = ("0", "", "1", "10", "", "0" * 61, "1")
        for signs in pieces:
            states.append((reader.read(), reader.told(), len(reader)))
            reader.put(signs)
        for signs, state in zip(pieces[::-1], states[::-1]):
            self.assertEqual(reader.take(), signs)
            self.assertEqual((reader.read(), reader.told(), len(reader)), state)
        for again in range(2):
            with self.assertRaises(NothingLeft):
                reader.take()
            self.assertEqual((reader.read(), reader.told(), len(reader)), ("", "", 0))

    def test_put_again_otherwise(self):
        for rows in tables(3):
            reader = Reader(Swap(rows))
            for one, other in itertools.product(("0", "01", "110"), repeat=2):
                reader.put(one)
                reader.put("0")
                reader.take()
                reader.take()
                fresh = Reader(Swap(rows))
                self.assertEqual(reader.put(other), fresh.put(other))
                self.assertEqual((reader.read(), reader.told()), (other, fresh.told()))
                reader.take()

    def test_of_a_new_one(self):
        with self.assertRaises(NothingLeft):
            Reader(Swap()).take()

    def test_a_putting_of_no_signs(self):
        reader = Reader(Swap(MAIN))
        reader.put("")
        self.assertEqual(reader.take(), "")
        with self.assertRaises(NothingLeft):
            reader.take()


class Twin(unittest.TestCase):
    def test_alike(self):
        reader = Reader(Swap(MAIN))
        for signs in ("0", "11", ""):
            reader.put(signs)
        twin = reader.twin()
        self.assertIsInstance(twin, Reader)
        self.assertIsNot(twin, reader)
        self.assertEqual((twin.read(), twin.told(), len(twin)), ("011", "101", 3))
        self.assertEqual([twin.take() for time in range(3)], ["", "11", "0"])
        with self.assertRaises(NothingLeft):
            twin.take()
        self.assertEqual((reader.read(), reader.told(), len(reader)), ("011", "101", 3))
        self.assertEqual([reader.take() for time in range(3)], ["", "11", "0"])

    def test_each_goes_its_own_way(self):
        reader = Reader(Swap(MAIN))
        reader.put("0")
        twin = reader.twin()
        self.assertEqual(reader.put("0"), "0")
        self.assertEqual(twin.put("10"), "100")
        self.assertEqual((reader.read(), reader.told()), ("00", "0"))
        self.assertEqual((twin.read(), twin.told()), ("010", "100"))
        self.assertEqual((reader.take(), twin.take(), twin.take()), ("0", "10", "0"))
        self.assertEqual((reader.read(), twin.read()), ("0", ""))
        self.assertEqual(twin.twin().put("1"), "11")

    def test_of_a_deep_one(self):
        reader = Reader(plain("0", "1").within("01" * 30))
        reader.put("01" * 30)
        self.assertEqual(reader.twin().put("11"), "01")

    def test_readers_made_apart(self):
        swap = Swap(MAIN)
        one, other = Reader(swap), Reader(swap)
        one.put("01")
        self.assertEqual((other.read(), other.told(), len(other)), ("", "", 0))
        with self.assertRaises(NothingLeft):
            other.take()
        self.assertEqual(str(swap), "{00>0 01>10 1>11}")


class Interface(unittest.TestCase):
    def test_arguments(self):
        self.assertEqual(str(inspect.signature(Reader)), "(swap)")
        for name, told in (("put", "(self, signs)"), ("read", "(self)"), ("told", "(self)"), ("take", "(self)"),
                           ("twin", "(self)"), ("__len__", "(self)")):
            self.assertIn(name, vars(Reader))
            self.assertEqual(str(inspect.signature(getattr(Reader, name))), told, name)


if __name__ == "__main__":
    unittest.main()

"""Promises [1] and [4]: endless rows that repeat."""

import inspect
import itertools
import unittest
from unittest import mock

from headswap.endless import SHOWN, Endless, read_endless
from headswap.errors import BadHead, BadNumber, BadRing, BadText
from helping import NO_HEADS, words

# head, ring, how the row is written
WRITTEN = (
    ("", "0", "(0)"),
    ("", "1", "(1)"),
    ("01", "10", "01(10)"),
    ("", "10", "(10)"),
    ("", "1010", "(10)"),
    ("", "111", "(1)"),
    ("", "011011011", "(011)"),
    ("0", "10", "(01)"),
    ("1", "01", "(10)"),
    ("10", "10", "(10)"),
    ("0", "0", "(0)"),
    ("0000", "00", "(0)"),
    ("1000", "0", "1(0)"),
    ("0110", "1010", "01(10)"),
    ("011", "011", "(011)"),
    ("111", "011", "1(110)"),
    ("01", "0", "01(0)"),
    ("1", "0", "1(0)"),
    ("00", "01", "00(01)"),
    ("00", "10", "0(01)"),
    ("0" * 60, "1" * 60, "0" * 60 + "(1)"),
    ("0" * 60, "0" * 60, "(0)"),
    ("", "0" * 59 + "1", "(" + "0" * 59 + "1)"),
    ("01" * 30, "01" * 30, "(01)"),
)

NO_ROWS = (
    "", "0", "()", "0()", "(", ")", "(0", "0)", "0(1", "(01", "0(10", "(01x", "(01 ", "(01]", "0 (1)", " (0)",
    "(0) ", "(0)\n", "\n(0)", "( 0)", "(0 )", "(2)", "2(0)", "(0)(1)", "((0))", "(0))", "((0)", "(0)1", "-(0)",
    "-", "[0]", "0[1]", ")0(", "01(1a)", "a01(1)", "01(10)'", "(0(1))", "(-)", "0(-)", "(0)0", "Endless(01(10))",
    "x" * 4000, "0" * 4000, "0" * 3997 + "(x)",
)


def unrolled(head, ring, many=64):
    """The first signs, sign by sign, without a plain form."""
    return "".join(head[at] if at < len(head) else ring[(at - len(head)) % len(ring)] for at in range(many))


PAIRS = [(head, ring) for head in words(4) for ring in words(4) if ring]
SHORT_PAIRS = [(head, ring) for head in words(2) for ring in words(3) if ring]


def shortest(told, longest):
    """The shortest ring, then the shortest head, of a row by its signs, found by trying."""
    for many in range(1, longest + 1):
        for ahead in range(longest + 1):
            head, ring = told[:ahead], told[ahead:ahead + many]
            if unrolled(head, ring, len(told)) == told:
                return head, ring
    return None


class PlainForm(unittest.TestCase):
    def test_written(self):
        for head, ring, text in WRITTEN:
            with self.subTest((head, ring)):
                row = Endless(head, ring)
                self.assertEqual(str(row), text)
                self.assertEqual(repr(row), f"Endless({text})")
                self.assertEqual((row.head(), row.ring()), tuple(text[:-1].split("(")))

    def test_all_short_ones(self):
        for head, ring in PAIRS:
            row = Endless(head, ring)
            told = unrolled(head, ring)
            self.assertEqual((row.head(), row.ring()), shortest(told, 8), (head, ring))
            self.assertEqual(str(row), f"{row.head()}({row.ring()})")

    def test_repr_of_the_document(self):
        self.assertEqual(repr(Endless("01", "10")), "Endless(01(10))")

    def test_asked_again(self):
        row = Endless("0110", "1010")
        for _ in range(2):
            self.assertEqual((row.head(), row.ring(), str(row), row.signs()), ("01", "10", "01(10)", "011010101010"))

    def test_handed_by_name(self):
        self.assertEqual(str(Endless(ring="10", head="01")), "01(10)")


class Refused(unittest.TestCase):
    def test_head(self):
        for text in NO_HEADS:
            with self.subTest(text), self.assertRaises(BadHead):
                Endless(text, "0")

    def test_ring(self):
        for text in NO_HEADS:
            with self.subTest(text), self.assertRaises(BadHead):
                Endless("0", text)

    def test_empty_ring(self):
        for head in ("", "0", "01", "1" * 60):
            with self.subTest(head), self.assertRaises(BadRing):
                Endless(head, "")

    def test_head_goes_ahead_of_an_empty_ring(self):
        for text in NO_HEADS:
            with self.subTest(text), self.assertRaises(BadHead):
                Endless(text, "")

    def test_both_bad(self):
        with self.assertRaises(BadHead):
            Endless("x", "y")

    def test_longest_ones_are_good(self):
        self.assertEqual(str(Endless("0" * 60, "0" * 59 + "1")), "0" * 60 + "(" + "0" * 59 + "1)")


class Equal(unittest.TestCase):
    def test_all_short_ones(self):
        rows = [(Endless(head, ring), unrolled(head, ring)) for head, ring in SHORT_PAIRS]
        for (one, told), (other, wanted) in itertools.product(rows, repeat=2):
            self.assertIs(one == other, told == wanted)
            self.assertIs(one != other, told != wanted)

    def test_the_head_or_the_ring_alone_is_unlike(self):
        self.assertFalse(Endless("0", "1") == Endless("", "1"))
        self.assertFalse(Endless("1", "0") == Endless("1", "001"))
        self.assertTrue(Endless("1", "0") != Endless("1", "001"))

    def test_beside_other_things(self):
        row = Endless("", "0")
        for other in ("(0)", "0", 0, None, True, False, ("", "0"), ["", "0"], {}, object(), mock.ANY):
            self.assertIs(row == other, False, other)
            self.assertIs(row != other, True, other)

    def test_other_things_with_the_same_inside(self):
        row = Endless("", "0")

        class Other:
            pass

        other = Other()
        other.__dict__.update(vars(row))
        self.assertIs(row == other, False)
        self.assertIs(row != other, True)


class Signs(unittest.TestCase):
    def test_shown(self):
        self.assertEqual(SHOWN, 12)

    def test_left_out(self):
        self.assertEqual(Endless("01", "10").signs(), "011010101010")
        self.assertEqual(Endless("", "0").signs(), "0" * 12)
        self.assertEqual(Endless("1" * 20, "0").signs(), "1" * 12)

    def test_many(self):
        for head, ring in SHORT_PAIRS:
            row = Endless(head, ring)
            for many in range(20):
                self.assertEqual(row.signs(many=many), unrolled(head, ring, many))

    def test_edges(self):
        row = Endless("01", "110")
        self.assertEqual(row.signs(many=0), "")
        self.assertEqual(row.signs(many=1), "0")
        self.assertEqual(row.signs(many=3999), unrolled("01", "110", 3999))
        self.assertEqual(row.signs(many=4000), unrolled("01", "110", 4000))
        self.assertEqual(Endless("", "0").signs(many=4000), "0" * 4000)

    def test_refused(self):
        for many in (-1, -2, 4001, 5000, -10 ** 24, 10 ** 24):
            with self.subTest(many), self.assertRaises(BadNumber):
                Endless("01", "10").signs(many=many)

    def test_only_by_name(self):
        with self.assertRaises(TypeError):
            Endless("01", "10").signs(3)


class Behind(unittest.TestCase):
    def test_many(self):
        for head, ring in PAIRS:
            row = Endless(head, ring)
            for many in range(12):
                told = row.behind(many)
                wanted = unrolled(head, ring, 80)[many:]
                self.assertEqual(told.signs(many=60), wanted[:60])
                self.assertEqual((told.head(), told.ring()), shortest(wanted, 8))

    def test_edges(self):
        row = Endless("01", "110")
        self.assertEqual(row.behind(0), row)
        self.assertEqual(str(row.behind(1)), "1(110)")
        self.assertEqual(str(row.behind(2)), "(110)")
        self.assertEqual(str(row.behind(3999)), "(101)")
        self.assertEqual(str(row.behind(4000)), "(011)")
        self.assertEqual(str(Endless("", "01").behind(4000)), "(01)")
        self.assertEqual(str(Endless("", "01").behind(3999)), "(10)")

    def test_refused(self):
        for many in (-1, -2, 4001, 5000, -10 ** 24, 10 ** 24):
            with self.subTest(many), self.assertRaises(BadNumber):
                Endless("01", "10").behind(many)

    def test_a_long_ring(self):
        ring = "0" * 99 + "1"
        self.assertEqual(str(read_endless(f"({ring})").behind(1)), f"({ring[1:]}0)")

    def test_the_row_stays(self):
        row = Endless("01", "110")
        row.behind(1)
        row.behind(3)
        self.assertEqual(str(row), "01(110)")

    def test_handed_by_name(self):
        self.assertEqual(str(Endless("01", "10").behind(many=2)), "(10)")


class Under(unittest.TestCase):
    def test_all_short_ones(self):
        for head, ring in SHORT_PAIRS:
            row = Endless(head, ring)
            for ahead in words(4):
                told = row.under(ahead)
                self.assertIs(type(told), Endless)
                self.assertEqual((told.head(), told.ring()), shortest(ahead + unrolled(head, ring), 8))

    def test_written(self):
        self.assertEqual(str(Endless("01", "10").under("")), "01(10)")
        self.assertEqual(str(Endless("01", "10").under("11")), "1101(10)")
        self.assertEqual(str(Endless("", "10").under("0")), "(01)")
        self.assertEqual(str(Endless("", "0").under("0" * 60)), "(0)")

    def test_told_heads_may_be_longer(self):
        row = Endless("1" * 60, "0").under("1" * 60).under("01" * 30)
        self.assertEqual(str(row), "01" * 30 + "1" * 120 + "(0)")
        self.assertEqual(row.behind(60).head(), "1" * 120)
        self.assertEqual(row.signs(many=181)[-2:], "10")

    def test_refused(self):
        for text in NO_HEADS:
            with self.subTest(text), self.assertRaises(BadHead):
                Endless("01", "10").under(text)

    def test_the_row_stays(self):
        row = Endless("01", "10")
        row.under("111")
        self.assertEqual(str(row), "01(10)")

    def test_handed_by_name(self):
        self.assertEqual(str(Endless("", "10").under(head="11")), "11(10)")


class Starts(unittest.TestCase):
    def test_all_short_ones(self):
        for head, ring in PAIRS:
            row = Endless(head, ring)
            for ahead in words(5):
                self.assertIs(row.starts(ahead), unrolled(head, ring)[:len(ahead)] == ahead)

    def test_empty(self):
        self.assertIs(Endless("01", "10").starts(""), True)

    def test_longest(self):
        self.assertIs(Endless("", "01").starts("01" * 30), True)
        self.assertIs(Endless("", "01").starts("01" * 29 + "00"), False)

    def test_refused(self):
        for text in NO_HEADS:
            with self.subTest(text), self.assertRaises(BadHead):
                Endless("01", "10").starts(text)

    def test_handed_by_name(self):
        self.assertIs(Endless("01", "10").starts(head="011"), True)


class Before(unittest.TestCase):
    def test_all_short_ones(self):
        rows = [(Endless(head, ring), unrolled(head, ring)) for head, ring in PAIRS[::3]]
        for (one, told), (other, wanted) in itertools.product(rows, repeat=2):
            self.assertIs(one.before(other), told < wanted)

    def test_both_ways(self):
        self.assertIs(Endless("", "0").before(Endless("", "1")), True)
        self.assertIs(Endless("", "1").before(Endless("", "0")), False)
        self.assertIs(Endless("0", "1").before(Endless("1", "0")), True)
        self.assertIs(Endless("1", "0").before(Endless("0", "1")), False)

    def test_equal(self):
        row = Endless("01", "10")
        self.assertIs(row.before(row), False)
        self.assertIs(row.before(Endless("0110", "1010")), False)

    def look_at_both(self, less, more):
        self.assertIs(less.before(more), True)
        self.assertIs(more.before(less), False)

    def test_far_behind(self):
        self.look_at_both(read_endless("0" * 3000 + "(0)"), read_endless("0" * 3000 + "(1)"))
        self.look_at_both(read_endless("(0)"), read_endless("0" * 3900 + "1(0)"))
        self.look_at_both(read_endless("1" * 3990 + "(0)"), read_endless("(1)"))

    def test_far_behind_in_the_rings(self):
        # Fibonacci's words agree, told again and again, as long as rings of their lengths can.
        self.look_at_both(read_endless("(" + "0" * 1999 + "1)"), read_endless("(" + "0" * 1998 + "1)"))
        self.look_at_both(read_endless("(01001010)"), read_endless("(01001)"))
        one, other = "0", "01"
        for _ in range(14):
            one, other = other, other + one
            rows = read_endless(f"({one})"), read_endless(f"({other})")
            many = len(one) + len(other)
            told, wanted = unrolled("", one, many), unrolled("", other, many)
            self.assertEqual(told[:many - 2], wanted[:many - 2])
            self.assertIs(rows[0].before(rows[1]), told < wanted)
            self.assertIs(rows[1].before(rows[0]), wanted < told)

    def test_far_behind_short_heads(self):
        for head in ("", "1", "0" * 60):
            one = Endless(head, "0" * 59 + "1")
            other = Endless(head, "0" * 58 + "1")
            self.look_at_both(one, other)

    def test_heads_of_unlike_length(self):
        self.look_at_both(read_endless("(" + "0" * 50 + "1)"), read_endless("0" * 50 + "1" + "0" * 50 + "(1)"))
        self.look_at_both(Endless("0101", "0100"), Endless("", "01"))

    def test_handed_by_name(self):
        self.assertIs(Endless("", "0").before(other=Endless("", "1")), True)


class Read(unittest.TestCase):
    def test_plain(self):
        for _, _, text in WRITTEN:
            with self.subTest(text):
                row = read_endless(text)
                self.assertIs(type(row), Endless)
                self.assertEqual(str(row), text)

    def test_not_plain(self):
        for head, ring, text in WRITTEN:
            with self.subTest(text):
                self.assertEqual(str(read_endless(f"{head}({ring})")), text)
                self.assertEqual(read_endless(f"{head}({ring})"), Endless(head, ring))

    def test_all_short_ones(self):
        for head, ring in PAIRS:
            self.assertEqual(read_endless(f"{head}({ring})"), Endless(head, ring))

    def test_any_length(self):
        for text in ("0" * 61 + "(1)", "0(" + "0" * 60 + "1)", "1" * 2000 + "(" + "1" * 1900 + "0)",
                     "(" + "0" * 3997 + "1)", "0" * 3997 + "(1)"):
            self.assertEqual(str(read_endless(text)), text)
        self.assertEqual(str(read_endless("(" + "01" * 1999 + ")")), "(01)")
        self.assertEqual(str(read_endless("10" * 1000 + "(" + "10" * 900 + ")")), "(10)")
        self.assertEqual(str(read_endless("10" * 1000 + "(" + "01" * 900 + ")")), "10" * 1000 + "(01)")

    def test_refused(self):
        for text in NO_ROWS:
            with self.subTest(text), self.assertRaises(BadText) as caught:
                read_endless(text)
            self.assertEqual(caught.exception.at, 0)

    def test_handed_by_name(self):
        self.assertEqual(str(read_endless(text="0(1)")), "0(1)")


class Interface(unittest.TestCase):
    def test_arguments(self):
        self.assertEqual(str(inspect.signature(Endless)), "(head, ring)")
        self.assertEqual(str(inspect.signature(read_endless)), "(text)")
        for name, told in (("head", "(self)"), ("ring", "(self)"), ("signs", "(self, *, many=12)"),
                           ("behind", "(self, many)"), ("under", "(self, head)"), ("starts", "(self, head)"),
                           ("before", "(self, other)")):
            self.assertEqual(str(inspect.signature(vars(Endless)[name])), told, name)
        for name in ("__eq__", "__str__", "__repr__"):
            self.assertIn(name, vars(Endless))

    def test_objects_are_apart(self):
        one, other = Endless("01", "10"), Endless("01", "10")
        more = one.under("1")
        self.assertEqual((str(one), str(other), str(more)), ("01(10)", "01(10)", "101(10)"))
        self.assertEqual(str(Endless("", "0")), "(0)")


if __name__ == "__main__":
    unittest.main()

"""Promises [1], [5] and [12]: how terms are made to exchanges."""

import copy
import inspect
import unittest

from headswap.errors import BadTable, NoName, NotApart, TooGreat
from headswap.making import made
from headswap.swaps import Swap, plain
from headswap.terms import read_term
from helping import doubling

X = "{00>0 01>10 1>11}"
# Each has more than 64 fewest rows: a plain one, a table within a head, and a power.
GREAT = ("[" + "0" * 33 + " " + "1" * 32 + "]", "1:" + "0" * 60 + ":{00>01 01>00 10>11 11>10}",
         "{000>0 001>10 01>110 1>111}^32")
NOT_APART = ("[0 01]", "[01 0]", "[0 0]", "[- -]", "[- 0]", "[0 -]")
BAD_TABLES = ("{0>1}", "{->0}", "{0>-}", "{0>0 0>1}", "{0>0 1>0}", "{0>0 10>1}", "{0>0 1>10}", "{->- ->-}",
              "{0>0 1>1 11>11}")


def read_all(**texts):
    return {name: read_term(text) for name, text in texts.items()}


def built(text, **texts):
    return made(read_term(text), names=read_all(**texts))


def places_of(text):
    """The text alone, and at each place where a part may stand."""
    return (text, f"{text}'", f"{text}^0", f"0:{text}", f"one * {text}", f"{text} * one", f"{text} ~ one",
            f"one ~ {text}")


class Made(unittest.TestCase):
    def test_each_form(self):
        for text, told in (("one", "{->-}"), ("[01 1]", "{00>00 01>1 1>01}"), (X, X), ("{1>0 0>1}", "{0>1 1>0}"),
                           ("{1>1 0>0}", "{->-}"), (f"{X} * [0 1]", "{00>1 01>00 1>01}"),
                           (f"[0 1] * {X}", "{0>11 10>0 11>10}"), (f"{X} ~ [0 1]", "{0>01 10>1 11>00}"),
                           (f"[00 01] ~ {X}", "{0>10 10>0 11>11}"), (f"{X}'", "{0>00 10>01 11>1}"),
                           (f"{X}^2", "{000>0 001>10 01>110 1>111}"), (f"{X}^0", "{->-}"), (f"{X}^1", X),
                           (f"{X}^-1", "{0>00 10>01 11>1}"), (f"{X}^-2", "{0>000 10>001 110>01 111>1}"),
                           ("01:[0 1]", "{00>00 010>011 011>010 1>1}"), ("-:[0 1]", "{0>1 1>0}"), ("0:one", "{->-}")):
            with self.subTest(text):
                told_swap = made(read_term(text))
                self.assertIsInstance(told_swap, Swap)
                self.assertEqual(str(told_swap), told)
                self.assertEqual(str(made(read_term(text), names={})), told)
                self.assertEqual(str(made(read_term(text), names=())), told)

    def test_as_exchanges_do(self):
        a, b, c = Swap([("00", "0"), ("01", "10"), ("1", "11")]), plain("0", "1"), plain("10", "0")
        names = read_all(a=X, b="[0 1]", c="[0 10]")
        for text, wanted in (("a * b * c", a.then(b).then(c)), ("a * (b * c)", a.then(b.then(c))),
                             ("a ~ b ~ c", a.seen(b).seen(c)), ("a ~ (b ~ c)", a.seen(b.seen(c))),
                             ("a * b ~ c", a.then(b.seen(c))), ("(a * b) ~ c", a.then(b).seen(c)),
                             ("0:(a * b)", a.then(b).within("0")), ("0:a * b", a.within("0").then(b)),
                             ("(0:a)'", a.within("0").back()), ("0:a^3 ~ c'", a.power(3).within("0").seen(c.back())),
                             ("1:0:a^-3", a.power(-3).within("10")), ("c ~ a", c.seen(a)), ("b * c", b.then(c)),
                             ("c * b", c.then(b)), ("(a * a')^7", Swap())):
            with self.subTest(text):
                self.assertEqual(made(read_term(text), names=names), wanted)

    def test_names_that_lean_on_names(self):
        self.assertEqual(str(built("c", a=X, b="a * a", c="b ~ a")), "{000>0 001>10 01>110 1>111}")
        self.assertEqual(str(built("c'", c="b", b="a'", a=X)), X)
        self.assertEqual(built("a * b", a="c", b="c'", c="d", d=X), Swap())
        self.assertEqual(built("a", a="b * c * d", b="c * d", c="d", d="[0 1]"), Swap())

    def test_names_that_lean_on_many(self):
        letters = "abcdefghijklmnopqrstuvwxyz"[:24]
        names = {"a": read_term("[0 1]")}
        for at in range(1, 24):
            names[letters[at]] = read_term(" * ".join(letters[:at]))
        # Each name doubles what all the names ahead of it are: none is odd but the first two.
        self.assertEqual(made(read_term("b"), names=names), plain("0", "1"))
        self.assertEqual(made(read_term("c"), names=names), Swap())
        self.assertEqual(made(read_term("x"), names=names), Swap())

    def test_long_chains(self):
        names = {"a": read_term("[0 1]" + "'" * 155)}
        letters = "abcdefghijklmnopqrstuvwxyz"
        for before, name in zip(letters, letters[1:]):
            names[name] = read_term(before + "'" * 159)
        self.assertEqual(made(read_term("z" + "'" * 159), names=names), plain("0", "1"))
        self.assertEqual(made(read_term("z" + "*z" * 79), names=names), Swap())

    def test_a_name_stands_for_what_is_handed_in(self):
        self.assertEqual(str(built("a", a="[0 1]")), "{0>1 1>0}")
        self.assertEqual(str(built("a", a="[0 10]")), "{0>10 10>0 11>11}")
        self.assertEqual(str(made(("name", "a"), names={"a": ("one",)})), "{->-}")

    def test_the_handed_dict_stays(self):
        names = read_all(a="b * c", b=X, c="[0 1]", d="a")
        ahead = copy.deepcopy(names)
        term = read_term("a * b")
        for again in range(2):
            self.assertEqual(str(made(term, names=names)), str(built(f"{X} * [0 1] * {X}")))
            self.assertEqual(names, ahead)
            self.assertEqual(list(names), ["a", "b", "c", "d"])
        self.assertEqual(term, read_term("a * b"))

    def test_what_is_told_is_not_kept(self):
        names = read_all(a="[0 1]")
        one = made(("name", "a"), names=names)
        names["a"] = ("one",)
        self.assertEqual(str(one), "{0>1 1>0}")
        self.assertEqual(made(("name", "a"), names=names), Swap())


class Refused(unittest.TestCase):
    def look(self, error, text, **texts):
        names = read_all(**texts)
        ahead = copy.deepcopy(names)
        with self.subTest(text), self.assertRaises(error):
            made(read_term(text), names=names)
        self.assertEqual(names, ahead)

    def test_no_name(self):
        for text in ("a", "a'", "a^0", "0:a", "one * a", "a * one", "one ~ a", "a ~ one", "[0 1] * (one * a)"):
            self.look(NoName, text)
            self.look(NoName, text, b="one")
            self.look(NoName, text.replace("a", "b") + " * c", b="one", a="one")
            with self.assertRaises(NoName):
                made(read_term(text))

    def test_no_name_in_what_names_stand_for(self):
        self.look(NoName, "a", a="b")
        self.look(NoName, "a", a="b", b="c")
        self.look(NoName, "a * d", a="b", b="one", d="b * e")
        self.look(NoName, "a", a="b * c", b="one")

    def test_no_name_goes_ahead_of_all_else(self):
        for bad in (*NOT_APART, *BAD_TABLES, *GREAT):
            for text in (f"{bad} * a", f"a * {bad}", f"{bad} ~ a", f"a ~ {bad}", f"0:({bad} * a')"):
                self.look(NoName, text)
                self.look(NoName, text, a="b")
                self.look(NoName, text, a="b * one", b="one * c")
        for bad in GREAT:
            self.look(NoName, "g * a", g=bad)
            self.look(NoName, "a * g", g=bad)
            self.look(NoName, "a", a="g * b", g=bad)
            self.look(NoName, "a", a=f"{bad} * b")

    def test_not_apart(self):
        for text in NOT_APART:
            for inner in places_of(text):
                self.look(NotApart, inner)

    def test_bad_tables(self):
        for text in BAD_TABLES:
            for inner in places_of(text):
                self.look(BadTable, inner)

    def test_too_great(self):
        for text in GREAT:
            for inner in (text, f"{text}'", f"({text})^0", f"({text})^0 * one", f"one ~ ({text})"):
                if len(inner) <= 160:
                    self.look(TooGreat, inner)

    def test_just_not_too_great(self):
        self.assertEqual(len(built("[" + "0" * 32 + " " + "1" * 32 + "]")), 64)
        self.assertEqual(len(built("0" * 60 + ":{00>01 01>00 10>11 11>10}")), 64)
        self.assertEqual(len(built("{000>0 001>10 01>110 1>111}^31")), 64)

    def test_each_part_counts(self):
        for text in GREAT:
            self.look(TooGreat, "g * h", g=text, h="g'")
            self.look(TooGreat, "g^0", g=text)
            self.look(TooGreat, "one ~ g", g=text)
            self.look(TooGreat, "(a * g) * (g' * a')", g=text, a="one")
        self.look(TooGreat, "a^32 * a^-32", a="{000>0 001>10 01>110 1>111}")
        self.look(TooGreat, "(a^31 * a) * a'", a="{000>0 001>10 01>110 1>111}")
        self.assertEqual(len(built("a^31 * a' * a", a="{000>0 001>10 01>110 1>111}")), 64)
        self.look(TooGreat, "(a * b) * b", a="[" + "0" * 32 + " " + "1" * 32 + "]", b="[" + "0" * 34 + " 10]")

    def test_what_lies_between_in_a_part_does_not_count(self):
        swap = doubling(40)
        term = ("table", tuple(swap.rows()))
        self.assertEqual(made(("power", ("name", "a"), 4), names={"a": term}), Swap())
        self.assertEqual(made(("power", term, 3)), swap.back())
        self.assertEqual(made(("seen", ("back", term), term)), swap.back())
        with self.assertRaises(TooGreat):
            made(("power", ("power", term, 2), 2))
        with self.assertRaises(TooGreat):
            made(("then", ("then", term, term), term))

    def test_left_ones_first(self):
        bad = [(NotApart, "[0 01]"), (BadTable, "{0>1}"), (TooGreat, GREAT[0]), (TooGreat, "g")]
        for error, text in bad:
            for other_error, other in bad:
                for sign in "*~":
                    self.look(error, f"{text} {sign} {other}", g=GREAT[0])
                    self.look(error, f"{text}' {sign} 0:{other}", g=GREAT[0])
                    self.look(error, f"one {sign} ({text} {sign} {other})", g=GREAT[0])
                    self.look(error, f"(a {sign} {text}) {sign} {other}", g=GREAT[0], a="[0 1]")

    def test_parts_ahead_of_the_whole(self):
        # The same three one behind another are refused for what is whole first.
        self.look(TooGreat, "(a^31 * a) * [0 0]", a="{000>0 001>10 01>110 1>111}")
        self.look(NotApart, "a^31 * (a * [0 0])", a="{000>0 001>10 01>110 1>111}")
        self.look(BadTable, "a^31 * (a * {0>1})", a="{000>0 001>10 01>110 1>111}")
        self.look(NotApart, "a ~ (b * [0 0])", a="{000>0 001>10 01>110 1>111}^31", b="a")

    def test_a_great_name_is_so_where_it_stands(self):
        for great in GREAT:
            self.look(NotApart, "[0 0] * g", g=great)
            self.look(TooGreat, "g * [0 0]", g=great)
            self.look(BadTable, "h * {0>1} * g", g=great, h="one")
            self.look(TooGreat, "h * {0>1}", g=great, h="g'")
            self.look(TooGreat, "h * {0>1}", g=great, h="k * k", k="one ~ g")

    def test_names_that_play_no_part(self):
        for bad in GREAT:
            self.assertEqual(str(built("a", a="[0 1]", g=bad, h="g * g")), "{0>1 1>0}")
        self.assertEqual(str(built("a", a="[0 1]", b="nothing", c="b")), "{0>1 1>0}")
        self.assertEqual(built("one", b="nothing"), Swap())
        self.look(NotApart, "[0 0]", b="nothing", g=GREAT[0])


class Interface(unittest.TestCase):
    def test_arguments(self):
        self.assertEqual(str(inspect.signature(made)), "(term, *, names=())")

    def test_names_by_name_alone(self):
        with self.assertRaises(TypeError):
            made(("one",), {})
        self.assertEqual(made(names={}, term=("one",)), Swap())


if __name__ == "__main__":
    unittest.main()

"""Promises [1], [10] and [11]: terms, how they are written and how they are read."""

import functools
import inspect
import itertools
import random
import unittest

from headswap.errors import BadText
from headswap.terms import DEEPEST, MOST_TEXT, names_in, read_term, term_text

A, B, C = ("name", "a"), ("name", "b"), ("name", "c")
ONE = ("one",)

# term, text
WRITTEN = (
    (ONE, "one"),
    (A, "a"),
    (("name", "abcdefgh"), "abcdefgh"),
    (("name", "on"), "on"),
    (("name", "ones"), "ones"),
    (("plain", "01", "1"), "[01 1]"),
    (("plain", "", ""), "[- -]"),
    (("plain", "0", "0"), "[0 0]"),
    (("plain", "", "10"), "[- 10]"),
    (("plain", "1" * 60, "0" * 60), "[" + "1" * 60 + " " + "0" * 60 + "]"),
    (("table", (("00", "0"), ("01", "10"), ("1", "11"))), "{00>0 01>10 1>11}"),
    (("table", (("", ""),)), "{->-}"),
    (("table", (("1", ""), ("", "0"), ("1", "1"))), "{1>- ->0 1>1}"),
    (("then", A, B), "a * b"),
    (("seen", A, B), "a ~ b"),
    (("back", A), "a'"),
    (("power", A, 3), "a^3"),
    (("power", A, -2), "a^-2"),
    (("power", A, 0), "a^0"),
    (("power", A, 10), "a^10"),
    (("power", A, 60), "a^60"),
    (("power", A, -60), "a^-60"),
    (("within", "01", A), "01:a"),
    (("within", "", A), "-:a"),
    (("within", "01", ("plain", "0", "1")), "01:[0 1]"),
    (("power", ("table", (("", ""),)), 2), "{->-}^2"),
    (("then", ONE, ("seen", A, ("back", B))), "one * a ~ b'"),
)

# Forms of each tightness, from the loosest one on, and their texts.
LEVELS = (
    (("then", A, B), "a * b"),
    (("seen", A, B), "a ~ b"),
    (("within", "01", A), "01:a"),
    (("back", A), "a'"),
    (("power", A, -2), "a^-2"),
    (("plain", "0", "1"), "[0 1]"),
    (("table", (("", ""),)), "{->-}"),
    (ONE, "one"),
    (A, "a"),
)

# Read in another way than they are written: text, text as written
READ = (
    ("  a  ", "a"),
    ("(a)", "a"),
    ("((a))", "a"),
    ("( one )", "one"),
    ("a*b", "a * b"),
    ("a   *   b", "a * b"),
    ("a~b", "a ~ b"),
    ("a '", "a'"),
    ("a ' ' '", "a'''"),
    ("a ^3", "a^3"),
    ("a ^-3 ^2", "a^-3^2"),
    ("01 : a", "01:a"),
    ("- : a", "-:a"),
    (" 01  :  10:a", "01:10:a"),
    ("[ 0  1 ]", "[0 1]"),
    ("[-1]", "[- 1]"),
    ("[1-]", "[1 -]"),
    ("[--]", "[- -]"),
    ("{ 0 > 1   1>0 }", "{0>1 1>0}"),
    ("{0>-1>0}", "{0>- 1>0}"),
    ("{->-->-}", "{->- ->-}"),
    ("{-> - - >-}", "{->- ->-}"),
    ("a * b * c", "a * b * c"),
    ("(a * b) * c", "a * b * c"),
    ("a * (b * c)", "a * (b * c)"),
    ("a ~ b ~ c", "a ~ b ~ c"),
    ("(a ~ b) ~ c", "a ~ b ~ c"),
    ("(a ~ b) * (b ~ c)", "a ~ b * b ~ c"),
    ("0:(1:a)", "0:1:a"),
    ("0:((a)')", "0:a'"),
    ("0:a*b", "0:a * b"),
    ("0:a~1:b", "0:a ~ 1:b"),
    ("(0:a)'", "(0:a)'"),
    ("(a')'", "a''"),
    ("(a^2)^3", "a^2^3"),
    ("([0 1])", "[0 1]"),
    ("a^3'", "a^3'"),
    ("a*b~c'^2", "a * b ~ c'^2"),
)

# text, where it can't be read
BAD = (
    ("", 0), (" ", 1), ("   ", 3), ("a b", 2), ("a one", 2), ("a 01", 2), ("a -", 2), ("a01", 1), ("a[0 1]", 1),
    ("a (b)", 2), ("a {0>1}", 2), ("(a)(b)", 3), ("01a", 2), ("01", 2), ("01 ", 3), ("-", 1), ("-a", 1),
    ("01 [0 1]", 3),
    ("01'", 2), ("01*a", 2), ("01)", 2), ("01>1", 2), ("0 1:a", 2), ("01:", 3), ("01: ", 4), ("01:*", 3), ("01:'", 3),
    (":a", 0), ("a:b", 1), ("one:a", 3), ("*", 0), ("* a", 0), ("a *", 3), ("a * ", 4), ("a * * b", 4), ("a ~", 3),
    ("a ~ * b", 4), ("~a", 0), ("'", 0), ("'a", 0), ("a * '", 4), ("^2", 0), ("a * ^2", 4), (">", 0), ("a > b", 2),
    ("(", 1), ("(a", 2), ("(a ", 3), ("()", 1), ("( )", 2), (")", 0), ("a)", 1), ("(a))", 3), ("(a]", 2), ("(a * )", 5),
    ("[", 1), ("[ ", 2), ("[]", 1), ("[0", 2), ("[0 ", 3), ("[0]", 2), ("[0 1", 4), ("[0 1 ", 5), ("[0 1 0]", 5),
    ("[01]", 3), ("[0>1]", 2), ("[a b]", 1), ("[0 a]", 3), ("[0 1)", 4), ("[0 1}", 4), ("[0 * 1]", 3), ("[0:1]", 2),
    ("]", 0), ("}", 0), ("{", 1), ("{}", 1), ("{ }", 2), ("{0", 2), ("{0}", 2), ("{0 1}", 3), ("{0>", 3), ("{0>}", 3),
    ("{0>1", 4), ("{0>1 ", 5), ("{0>1 1}", 6), ("{0>1 1", 6), ("{0>1 1>", 7), ("{0>1>1}", 4), ("{>1}", 1), ("{a>1}", 1),
    ("{0>a}", 3), ("{0>1]", 4), ("{0>1,1>0}", 4), ("{0:1}", 2), ("{0>1 *}", 5), ("(0:a", 4), ("[0 1]]", 5),
    ("{0>1}}", 5),
    # Something that is no sign of the tongue goes first, wherever it stands.
    ("A", 0), ("a B", 2), ("a = b", 2), ("a\n", 1), ("\na", 0), ("2", 0), ("a * 2", 4), ("012", 2),
    ("[0 2]", 3), ("a,b", 1),
    ("a.", 1), ("a+b", 1), ("_", 0), ("a_b", 1), ("\"a\"", 0), ("a/b", 1), ("a|b", 1), ("a`", 1), ("!", 0), ("a#", 1),
    ("* * ) ]$", 7), ("a b c d ?", 8), (") X", 2), ("[[[[&", 4), ("a b &", 4), ("(((((((((((((((((((( ;", 21),
    ("abcdefghi", 0), ("a * abcdefghi", 4), ("* abcdefghij", 2), ("a b abcdefghi", 4), ("abcdefghi A", 0),
    ("A abcdefghi", 0), ("oneoneone", 0), ("z" * 160, 0),
    ("0" * 61, 0), ("0" * 61 + ":a", 0), (") " + "01" * 31, 2), ("[0 " + "1" * 61 + "]", 3), ("a b [" + "1" * 61, 5),
    ("{0>1 1>" + "0" * 100 + "}", 7), ("[" + "0" * 61 + " A", 1),
    # A number behind ^ that is wrong, at the sign behind ^.
    ("a^", 2), ("a^ ", 2), ("a^ 3", 2), ("a^a", 2), ("a^'", 2), ("a^^2", 2), ("a^*", 2), ("a^(2)", 2), ("a^$", 2),
    ("a^-", 2), ("a^- 2", 2), ("a^--2", 2), ("a^-a", 2), ("a^-$", 2), ("a^+2", 2), ("a^-)", 2), ("a^-^2", 2),
    ("a^00", 2), ("a^01", 2), ("a^010", 2), ("a^-0", 2), ("a^-00", 2), ("a^-01", 2), ("a^61", 2), ("a^-61", 2),
    ("a^100", 2), ("a^-100", 2), ("a^600", 2), ("a^" + "1" * 100, 2), ("a^" + "9" * 158, 2), ("a ^ 2", 3), ("^", 1),
    (") ^61", 3), ("* ^x", 3), ("a b ^ c", 5), ("a^2^", 4), ("a^2^ 2", 4), ("A^", 0), ("a^ A", 2), ("A a^", 0),
    ("a^00 A", 2),
    # Behind a number that is right.
    ("a^2 3", 4), ("a^2 1", 4), ("a^2-", 3), ("a^2-1", 3), ("a^2b", 3), ("a^2[0 1]", 3), ("a^1 0:b", 4), ("a^2:b", 3),
)

# Things that texts are made of, each with the sign of its kind.
PIECES = {"a": "w", "one": "w", "01": "h", "-": "h", "[": "[", "]": "]", "{": "{", "}": "}", ">": ">", "*": "*",
          "~": "*", "'": "'", "^2": "'", "^-3": "'", ":": ":", "(": "(", ")": ")"}
CLOSERS = ["", "w", ":w", "h]", "hh]", "]", ">h}", "h>h}", "h}", "}"]


@functools.lru_cache(maxsize=None)
def is_term(kinds):
    """Whether things of these kinds are a term, by any way to take it apart."""
    if kinds in ("w", "[hh]"):
        return True
    if kinds[:1] == "{" and kinds[-1:] == "}":
        inner = kinds[1:-1]
        if inner and inner == "h>h" * (len(inner) // 3):
            return True
    if kinds[:1] == "(" and kinds[-1:] == ")" and is_term(kinds[1:-1]):
        return True
    if kinds[-1:] == "'" and is_term(kinds[:-1]):
        return True
    if kinds[:2] == "h:" and is_term(kinds[2:]):
        return True
    return any(sign == "*" and is_term(kinds[:at]) and is_term(kinds[at + 1:]) for at, sign in enumerate(kinds))


def may_begin(kinds):
    """Whether a term may begin with things of these kinds."""
    open_ones = kinds.count("(")
    return any(is_term(kinds + closer + ")" * many) for closer in CLOSERS for many in range(open_ones + 1))


def fault_of(pieces):
    """The number of the first thing that can't stand there, as many as there are where more is wanted, or None."""
    kinds = "".join(PIECES[piece] for piece in pieces)
    if is_term(kinds):
        return None
    for many in range(1, len(kinds) + 1):
        if not may_begin(kinds[:many]):
            return many - 1
    return len(kinds)


def any_term(chance, deep):
    """Any term, at most so deep."""
    word = chance.choice(("one", "name", "plain", "table") if deep == 0 else
                         ("then", "seen", "back", "power", "within", "then", "seen", "name"))
    head = chance.choice(("", "0", "1", "01", "110"))
    if word == "one":
        return ONE
    if word == "name":
        return ("name", chance.choice(("a", "b", "xyz", "abcdefgh", "onex", "on")))
    if word == "plain":
        return ("plain", head, chance.choice(("", "0", "10")))
    if word == "table":
        return ("table", tuple((head, chance.choice(("", "1", "00"))) for row in range(chance.randrange(1, 4))))
    if word == "within":
        return ("within", head, any_term(chance, deep - 1))
    if word == "back":
        return ("back", any_term(chance, deep - 1))
    if word == "power":
        return ("power", any_term(chance, deep - 1), chance.randrange(-60, 61))
    return (word, any_term(chance, deep - 1), any_term(chance, deep - 1))


def put_in_brackets(term):
    """The text of a term with brackets about each of its parts."""
    if term[0] in ("then", "seen"):
        sign = {"then": "*", "seen": "~"}[term[0]]
        return f"({put_in_brackets(term[1])}){sign}({put_in_brackets(term[2])})"
    if term[0] == "within":
        return f"{term[1] or '-'}:({put_in_brackets(term[2])})"
    if term[0] == "back":
        return f"({put_in_brackets(term[1])})'"
    if term[0] == "power":
        return f"({put_in_brackets(term[1])})^{term[2]}"
    return term_text(term)


class Text(unittest.TestCase):
    def test_numbers(self):
        self.assertEqual((DEEPEST, MOST_TEXT), (12, 160))

    def test_written(self):
        for term, text in WRITTEN:
            with self.subTest(text):
                self.assertEqual(term_text(term), text)

    def test_forms_within_forms(self):
        for place, (inner, text) in enumerate(LEVELS):
            with self.subTest(text):
                loose = [text if place >= least else f"({text})" for least in range(4)]
                self.assertEqual(term_text(("then", inner, C)), f"{loose[0]} * c")
                self.assertEqual(term_text(("then", C, inner)), f"c * {loose[1]}")
                self.assertEqual(term_text(("seen", inner, C)), f"{loose[1]} ~ c")
                self.assertEqual(term_text(("seen", C, inner)), f"c ~ {loose[2]}")
                self.assertEqual(term_text(("within", "1", inner)), f"1:{loose[2]}")
                self.assertEqual(term_text(("back", inner)), f"{loose[3]}'")
                self.assertEqual(term_text(("power", inner, 7)), f"{loose[3]}^7")
                for outer in (("then", inner, C), ("then", C, inner), ("seen", inner, C), ("seen", C, inner),
                              ("within", "1", inner), ("back", inner), ("power", inner, 7), ("then", inner, inner),
                              ("seen", inner, inner)):
                    self.assertEqual(read_term(term_text(outer)), outer)

    def test_both_sides(self):
        self.assertEqual(term_text(("then", ("then", A, B), ("then", B, C))), "a * b * (b * c)")
        self.assertEqual(term_text(("seen", ("seen", A, B), ("seen", B, C))), "a ~ b ~ (b ~ c)")
        self.assertEqual(term_text(("seen", ("then", A, B), ("then", B, C))), "(a * b) ~ (b * c)")
        self.assertEqual(term_text(("then", ("seen", A, B), ("seen", B, C))), "a ~ b * b ~ c")
        self.assertEqual(term_text(("then", ("then", ("then", A, B), C), A)), "a * b * c * a")
        self.assertEqual(term_text(("then", A, ("then", B, ("then", C, A)))), "a * (b * (c * a))")

    def test_long_chains(self):
        term = A
        for time in range(159):
            term = ("back", term)
        self.assertEqual(term_text(term), "a" + "'" * 159)
        self.assertEqual(read_term("a" + "'" * 159), term)
        self.assertEqual(names_in(term), ["a"])
        self.assertEqual(term_text(("back", ("back", term))), "a" + "'" * 161)
        for time in range(1000):
            term = ("back", term)
        self.assertEqual(term_text(term), "a" + "'" * 1159)
        term = read_term("a" + "*a" * 79)
        self.assertEqual(term_text(term), "a" + " * a" * 79)
        for time in range(30):
            term = ("within", "0", term)
        self.assertEqual(term_text(term), "0:" * 30 + "(a" + " * a" * 79 + ")")


class Read(unittest.TestCase):
    def test_what_was_written(self):
        for term, text in WRITTEN:
            with self.subTest(text):
                self.assertEqual(read_term(text), term)

    def test_kinds(self):
        term = read_term("{0>1 1>0}^2 * 01:a")
        self.assertEqual(term, ("then", ("power", ("table", (("0", "1"), ("1", "0"))), 2), ("within", "01", A)))
        self.assertIs(type(term), tuple)
        self.assertIs(type(term[1][1][1]), tuple)
        self.assertIs(type(term[1][1][1][0]), tuple)
        self.assertIs(type(term[1][2]), int)

    def test_read_otherwise(self):
        for text, told in READ:
            with self.subTest(text):
                self.assertEqual(term_text(read_term(text)), told)

    def test_taken_apart(self):
        for text, term in (("a * b * c", ("then", ("then", A, B), C)), ("a * (b * c)", ("then", A, ("then", B, C))),
                           ("a ~ b ~ c", ("seen", ("seen", A, B), C)), ("a ~ (b ~ c)", ("seen", A, ("seen", B, C))),
                           ("a * b ~ c", ("then", A, ("seen", B, C))), ("a ~ b * c", ("then", ("seen", A, B), C)),
                           ("0:a * b", ("then", ("within", "0", A), B)), ("0:a ~ b", ("seen", ("within", "0", A), B)),
                           ("a ~ 0:b ~ c", ("seen", ("seen", A, ("within", "0", B)), C)),
                           ("0:(a * b)", ("within", "0", ("then", A, B))),
                           ("0:1:a", ("within", "0", ("within", "1", A))),
                           ("0:a'", ("within", "0", ("back", A))), ("(0:a)'", ("back", ("within", "0", A))),
                           ("a'^2", ("power", ("back", A), 2)), ("a^2'", ("back", ("power", A, 2))),
                           ("a^2^-3", ("power", ("power", A, 2), -3)), ("a ~ b'", ("seen", A, ("back", B))),
                           ("a^11", ("power", A, 11)), ("-:[- -]", ("within", "", ("plain", "", "")))):
            with self.subTest(text):
                self.assertEqual(read_term(text), term)

    def test_any_terms(self):
        chance = random.Random(1)
        for time in range(600):
            term = any_term(chance, time % 5)
            text = term_text(term)
            if len(text) <= MOST_TEXT:
                self.assertEqual(read_term(text), term, text)
            full = put_in_brackets(term)
            if len(full) <= MOST_TEXT:
                self.assertEqual(read_term(full), term, full)

    def test_no_needless_brackets(self):
        chance = random.Random(2)
        for time in range(300):
            text = term_text(any_term(chance, time % 4))
            if len(text) > MOST_TEXT:
                continue
            for at in range(len(text)):
                if text[at] == "(":
                    end = at
                    while text[at:end].count("(") != text[at:end].count(")") or end == at:
                        end += 1
                    without = text[:at] + text[at + 1:end - 1] + text[end:]
                    self.assertNotEqual(read_term(without), read_term(text), text)

    def test_more_blanks(self):
        pieces = "( 01 : a * [ 0 1 ] ' ) ~ { 0 > 1 1 > - } ^-2".split()
        wanted = read_term(" ".join(pieces))
        self.assertEqual(term_text(wanted), "(01:a * [0 1]') ~ {0>1 1>-}^-2")
        for at in range(len(pieces) + 1):
            self.assertEqual(read_term(" ".join(pieces[:at]) + "   " + " ".join(pieces[at:])), wanted)
        self.assertEqual(read_term("(01:a*[0 1]')~{0>1 1>-}^-2"), wanted)

    def test_all_numbers(self):
        for many in range(-60, 61):
            self.assertEqual(read_term(f"a^{many}"), ("power", A, many))
            self.assertEqual(term_text(("power", A, many)), f"a^{many}")
        for many in list(range(61, 130)) + [600, 1000, 10 ** 24]:
            for text in (f"a^{many}", f"a^-{many}"):
                self.look(text, 2)

    def look(self, text, at):
        with self.subTest(text):
            with self.assertRaises(BadText) as caught:
                read_term(text)
            self.assertEqual(caught.exception.at, at)

    def test_bad(self):
        for text, at in BAD:
            self.look(text, at)

    def test_every_other_sign(self):
        for sign in [chr(code) for code in [10, *range(32, 127)]]:
            if sign not in "abcdefghijklmnopqrstuvwxyz01-[]{}>*~'^:() ":
                for text, at in ((sign, 0), ("a * b " + sign, 6), (") ) " + sign + " A", 4), (sign + "^99", 0)):
                    self.look(text, at)

    def test_the_length_of_the_text(self):
        self.assertEqual(read_term(" " * 159 + "a"), A)
        self.assertEqual(read_term("a" + " " * 159), A)
        self.look("a" + " " * 160, 160)
        self.look("a" * 161, 160)
        self.look("$" * 161, 160)
        self.look(" " * 4000, 160)
        self.look(" " * 160, 160)
        self.look("A" + " " * 160, 160)
        self.look("*" + " " * 159, 0)

    def test_longest_heads_and_words(self):
        self.assertEqual(read_term("1" * 60 + ":abcdefgh"), ("within", "1" * 60, ("name", "abcdefgh")))
        self.look("1" * 61 + ":abcdefgh", 0)
        self.look("1" * 60 + ":abcdefghi", 61)

    def test_all_short_texts(self):
        for many in range(5):
            for pieces in itertools.product(("a", "01", "[", "]", "{", "}", ">", "*", "'", ":", "(", ")"), repeat=many):
                self.look_at_pieces(pieces)

    def test_any_long_texts(self):
        chance = random.Random(4)
        seen = set()
        for time in range(4000):
            # One thing after another that may stand there, and at times another one.
            pieces = []
            for step in range(chance.randrange(14)):
                some = list(PIECES)
                chance.shuffle(some)
                kinds = "".join(PIECES[piece] for piece in pieces)
                good = [piece for piece in some if may_begin(kinds + PIECES[piece])]
                pieces.append(good[0] if good and chance.randrange(12) else some[0])
            seen.add(self.look_at_pieces(pieces))
        self.assertLessEqual({None, 0, 3, 6, 9, 12}, seen)

    def look_at_pieces(self, pieces):
        """Read things with blanks between and look whether the first fault is told."""
        text = " ".join(pieces)
        wrong = fault_of(pieces)
        if wrong is None:
            read_term(text)
        else:
            self.look(text, len(text) if wrong == len(pieces) else len(" ".join([*pieces[:wrong], ""])))
        return wrong


class Deep(unittest.TestCase):
    look = Read.look

    def test_brackets(self):
        self.assertEqual(read_term("(" * 12 + "a" + ")" * 12), A)
        self.look("(" * 13 + "a" + ")" * 13, 12)
        self.look("(" * 20, 12)
        self.look("(" * 12, 12)
        self.look("a * " + "(" * 13 + "a", 16)
        self.assertEqual(read_term("(" * 12 + "[0 1]*{->-}" + ")" * 12), read_term("[0 1] * {->-}"))
        self.assertEqual(read_term(" * ".join(["((a))"] * 20)), read_term(" * ".join(["a"] * 20)))

    def test_heads(self):
        term = A
        for time in range(12):
            term = ("within", "0", term)
        self.assertEqual(read_term("0:" * 12 + "a"), term)
        self.assertEqual(term_text(term), "0:" * 12 + "a")
        self.look("0:" * 13 + "a", 24)
        self.look("0 :" * 12 + "  01  : a", 38)
        self.look("0:" * 20, 24)
        self.assertEqual(read_term(" * ".join(["0:1:a"] * 12)), read_term(" * ".join(["0:(1:(a))"] * 12)))
        self.assertEqual(read_term("0:" * 12 + "a * " + "0:" * 12 + "a"), ("then", term, term))
        self.assertEqual(read_term("0:" * 12 + "a ~ " + "0:" * 12 + "a"), ("seen", term, term))

    def test_counted_together(self):
        for many in range(13):
            good = "(" * many + "0:" * (12 - many) + "a" + ")" * many
            self.assertEqual(read_term(good), read_term("0:" * (12 - many) + "a"))
            for inner, at in (("0:a", 0), ("(a)", 0)):
                self.look("(" * many + "0:" * (12 - many) + inner + ")" * many, many + 2 * (12 - many) + at)
        self.assertEqual(read_term("0:(" * 6 + "a" + ")" * 6), read_term("0:" * 6 + "a"))
        self.look("0:(" * 6 + "0:a" + ")" * 6, 18)
        self.look("0:(" * 6 + "(a)" + ")" * 6, 18)
        self.look("(0:" * 6 + "- : a" + ")" * 6, 18)

    def test_a_head_without_its_colon(self):
        for begin in ("(" * 12, "0:" * 12, "(0:" * 6):
            self.look(begin + "01", len(begin) + 2)
            self.look(begin + "01  ", len(begin) + 4)
            self.look(begin + "01 a", len(begin) + 3)
            self.look(begin + "01 01:a", len(begin) + 3)
            self.look(begin + "01)", len(begin) + 2)
            self.look(begin + "01 (", len(begin) + 3)
            self.look(begin + "-*", len(begin) + 1)
            self.look(begin + "01 :", len(begin))
            self.look(begin + "-:", len(begin))
            self.look(begin + "01:a", len(begin))
            self.look(begin + "*", len(begin))

    def test_other_things_are_not_too_deep(self):
        for begin, end in (("(" * 12, ")" * 12), ("0:" * 12, "")):
            for inner in ("a", "one", "[0 1]", "{0>1 1>0}", "a''", "a^3"):
                self.assertEqual(term_text(read_term(begin + inner + end)).replace("0:", ""), inner)
        self.assertEqual(read_term("(" * 12 + "a*b~c" + ")" * 12), read_term("a * b ~ c"))

    def test_no_sign_goes_first(self):
        self.look("(" * 20 + "A", 20)
        self.look("0:" * 20 + "a^", 42)
        self.look("(" * 13 + "0" * 61, 13)

    def test_beyond_deepest_they_are_written(self):
        term = ("then", A, A)
        text = "a * a"
        for time in range(20):
            term = ("then", A, term)
            text = f"a * ({text})"
        self.assertEqual(term_text(term), text)


class Names(unittest.TestCase):
    def test_first_places(self):
        for text, told in (("one", []), ("a", ["a"]), ("b * a", ["b", "a"]), ("a * b * a", ["a", "b"]), ("[0 1]", []),
                           ("c ~ (b * c) * a", ["c", "b", "a"]), ("0:a'", ["a"]), ("{0>1 1>0} * z^2 ~ y", ["z", "y"]),
                           ("(b * a) ~ (a * c)", ["b", "a", "c"]), ("a * (b * (c * b))", ["a", "b", "c"]),
                           ("one * ones", ["ones"]), ("x ~ y ~ z", ["x", "y", "z"])):
            with self.subTest(text):
                self.assertEqual(names_in(read_term(text)), told)

    def test_a_new_list(self):
        term = read_term("a * b")
        told = names_in(term)
        self.assertIs(type(told), list)
        told.append("x")
        self.assertEqual(names_in(term=term), ["a", "b"])
        names_in(ONE).append("x")
        self.assertEqual(names_in(ONE), [])


class Interface(unittest.TestCase):
    def test_arguments(self):
        for function, told in ((read_term, "(text)"), (term_text, "(term)"), (names_in, "(term)")):
            self.assertEqual(str(inspect.signature(function)), told)

    def test_by_name(self):
        self.assertEqual(term_text(term=read_term(text="a*b")), "a * b")

    def test_asked_again(self):
        term = read_term("a * 0:[0 1]")
        for again in range(2):
            self.assertEqual(term_text(term), "a * 0:[0 1]")
            self.assertEqual(read_term("a * 0:[0 1]"), term)


if __name__ == "__main__":
    unittest.main()

"""Promises [1], [20] and [21]: books, their deeds, and what is refused."""

import inspect
import random
import string
import unittest

from headswap import book as book_module
from headswap.book import MOST_NAMES, Book
from headswap.errors import (BadName, BadTable, BadText, Breaks, Full, Held, InUse, Lacking, NoName, NotApart,
                             NothingLeft, Ring, SwapError, Taken, TooGreat)
from headswap.making import made
from headswap.swaps import Swap
from headswap.terms import names_in, read_term, term_text

X = "{00>0 01>10 1>11}"
GREAT = f"{X}^40^2"
BAD_NAMES = ("", "one", "abcdefghi", "A", "aB", "a1", "a b", " a", "a ", "a\n", "\n", "-", "a-b", "0", "a'", "a" * 400)
LETTERS = string.ascii_lowercase


def book_with(**texts):
    book = Book()
    for name, text in texts.items():
        book.keep(name, text)
    return book


def full_book(first="[0 1]"):
    book = Book()
    book.keep("a", first)
    for name in LETTERS[1:MOST_NAMES]:
        book.keep(name, "one")
    return book


def state(book):
    """All that a book tells, but for what can be taken back and done again."""
    names = book.names()
    return (names, [book.term(name) for name in names], [book.swap(name) for name in names],
            [book.leans(name) for name in names], book.tried(), book.at_rest(), len(book))


def trail(book):
    """What a book tells along all that can be taken back and then along all that can be done again."""
    told = []
    for step in ("undo", "redo"):
        other = book.twin()
        while True:
            try:
                told.append((getattr(other, step)(), state(other)))
            except NothingLeft:
                break
    return told


def whole(book):
    return state(book), trail(book)


class Whole(unittest.TestCase):
    def refused(self, error, deed, *handed, **named):
        """That a deed is refused just so, and changes nothing but how many were tried; the refusal is told."""
        book = deed.__self__
        before, tried = whole(book), book.tried()
        with self.assertRaises(error) as caught:
            deed(*handed, **named)
        self.assertIs(type(caught.exception), error)
        self.assertEqual((book.tried(), book.at_rest()), (tried + 1, True))
        after = whole(book)
        self.assertEqual(without_tried(after), without_tried(before))
        return caught.exception


def without_tried(told):
    now, steps = told
    return now[:4] + now[5:], [(word, then[:4] + then[5:]) for word, then in steps]


class Kept(Whole):
    def test_numbers(self):
        self.assertEqual(MOST_NAMES, 24)

    def test_a_new_book(self):
        book = Book()
        self.assertEqual((book.names(), len(book), book.tried(), book.at_rest()), ([], 0, 0, True))
        self.assertRaises(NothingLeft, book.undo)
        self.assertRaises(NothingLeft, book.redo)

    def test_ordinary(self):
        book = Book()
        self.assertIsNone(book.keep("b", X))
        self.assertIsNone(book.keep("a", " b*b "))
        self.assertIsNone(book.keep("abcdefgh", "a'"))
        self.assertEqual(book.names(), ["a", "abcdefgh", "b"])
        self.assertEqual(book.term("a"), ("then", ("name", "b"), ("name", "b")))
        self.assertEqual(str(book.swap("a")), "{000>0 001>10 01>110 1>111}")
        self.assertEqual([book.leans(name) for name in book.names()], [["b"], ["a", "b"], []])
        self.assertEqual((len(book), book.tried()), (3, 3))
        self.assertIsNone(book.drop("abcdefgh"))
        self.assertEqual((book.names(), len(book), book.tried()), (["a", "b"], 2, 4))

    def test_made_by_what_is_kept_then(self):
        book = book_with(a="[0 1]", b="a * a", c="b * a")
        self.assertEqual(str(book.swap("c")), "{0>1 1>0}")
        book.keep("a", X, anew=True)
        self.assertEqual(str(book.swap("b")), "{000>0 001>10 01>110 1>111}")
        self.assertEqual(book.swap("c"), book.asked("a^3"))
        self.assertEqual(book.term("c"), read_term("b * a"))
        book.undo()
        self.assertEqual(str(book.swap("c")), "{0>1 1>0}")

    def test_anew(self):
        book = book_with(a="[0 1]", b="a")
        book.keep("a", "one", anew=True)
        self.assertEqual((book.term("a"), len(book)), (("one",), 2))
        book.keep("b", "one", anew=True)
        self.assertEqual(book.leans("b"), [])
        book.keep("a", "b", anew=True)
        self.assertEqual(book.leans("a"), ["b"])
        book.keep("a", "b", anew=True)
        self.assertEqual(book.tried(), 6)

    def test_anew_of_a_name_that_is_not_kept(self):
        book = Book()
        book.keep("a", "[0 1]", anew=True)
        self.assertEqual(book.names(), ["a"])
        self.refused(NoName, book.keep, "b", "b", anew=True)
        self.refused(Full, full_book().keep, "zz", "one", anew=True)
        self.refused(BadName, book.keep, "one", "one", anew=True)

    def test_each_name(self):
        book = Book()
        for name in ("a", "z", "on", "ones", "none", "abcdefgh", "keep", "zzzzzzzz"):
            book.keep(name, "one")
        self.assertEqual(len(book), 8)

    def test_four_and_twenty_names(self):
        book = full_book()
        self.assertEqual(book.names(), list(LETTERS[:24]))
        self.refused(Full, book.keep, "z", "one")
        book.keep("c", "a", anew=True)
        book.drop("x")
        book.keep("z", "c")
        self.refused(Full, book.keep, "x", "one")
        self.assertEqual(book.undo(), "keep")
        book.keep("y", "one")
        self.assertEqual(len(book), 24)

    def test_chains(self):
        book = Book()
        book.keep("a", "[0 1]")
        for before, name in zip(LETTERS, LETTERS[1:24]):
            book.keep(name, f"{before}'")
        self.assertEqual(book.leans("x"), list(LETTERS[:23]))
        self.assertEqual(book.leans("c"), ["a", "b"])
        self.assertEqual(book.swap("x"), book.asked("a"))
        book.keep("a", X, anew=True)
        self.assertEqual(book.swap("x"), book.asked("a'"))
        self.assertEqual(self.refused(Ring, book.keep, "a", "x", anew=True).around, ("a", *LETTERS[1:24][::-1]))
        self.assertEqual(self.refused(InUse, book.drop, "a").name, "b")

    def test_nets(self):
        book = Book()
        book.keep("a", "[0 1]")
        for at in range(1, 24):
            book.keep(LETTERS[at], "*".join(LETTERS[:at]))
        self.assertEqual(book.leans("x"), list(LETTERS[:23]))
        self.assertEqual(book.swap("x"), Swap())
        book.keep("a", "[0 1] * [00 01]", anew=True)
        self.assertEqual(book.swap("d"), book.asked("a^4"))
        self.assertEqual(self.refused(InUse, book.drop, "w").name, "x")
        self.assertEqual(self.refused(InUse, book.drop, "a").name, "b")
        around = self.refused(Ring, book.keep, "b", "c", anew=True).around
        self.assertEqual(around[0], "b")

    def test_texts_that_are_written_longer(self):
        book = Book()
        book.keep("a", "one" + "*one" * 39)
        self.assertEqual(len(term_text(book.term("a"))), 237)
        self.assertEqual(book.swap("a"), Swap())


class Refused(Whole):
    def test_bad_names(self):
        for name in BAD_NAMES:
            self.refused(BadName, book_with(a="one").keep, name, "a")

    def test_taken(self):
        book = book_with(a="one", b="a")
        for name in ("a", "b"):
            self.refused(Taken, book.keep, name, "one")
            self.refused(Taken, book.keep, name, "one", anew=False)

    def test_bad_texts(self):
        book = book_with(a="one")
        for text, at in (("", 0), ("a *", 3), ("a b", 2), ("a * B", 4), ("a^61", 2), (" " * 160, 160),
                         ("a" + " " * 160, 160), ("abcdefghi", 0), ("(a", 2), ("a)", 1), ("{}", 1), ("a\n", 1)):
            self.assertEqual(self.refused(BadText, book.keep, "b", text).at, at)
            self.assertEqual(self.refused(BadText, book.keep, "a", text, anew=True).at, at)

    def test_no_name(self):
        book = book_with(a="one", b="a")
        for text in ("c", "a * c", "c'", "0:(b ~ c)", "x", "a * b * x"):
            self.refused(NoName, book.keep, "x", text)
            self.refused(NoName, book.keep, "x", text, anew=True)
        self.refused(NoName, book.keep, "a", "c", anew=True)

    def test_ring_of_one(self):
        book = book_with(a="one", b="a")
        for text in ("a", "a'", "0:a * [0 1]", "one * a^0"):
            self.assertEqual(self.refused(Ring, book.keep, "a", text, anew=True).around, ("a",))

    def test_rings_are_walked(self):
        book = book_with(a="one", b="a * one", c="b' * a", d="[0 1]", e="c * d", f="one")
        for name, text in (("a", "b"), ("a", "c"), ("a", "e"), ("a", "f * e"), ("d", "e"), ("b", "c"),
                           ("b", "one * e'"), ("a", "b * c * e"), ("c", "e"), ("a", "a * e")):
            around = self.refused(Ring, book.keep, name, text, anew=True).around
            self.assertIs(type(around), tuple)
            self.assertEqual(around[0], name)
            self.assertEqual(len(set(around)), len(around))
            terms = {other: book.term(other) for other in book.names()}
            terms[name] = read_term(text)
            for here, there in zip(around, around[1:] + around[:1]):
                self.assertIn(there, names_in(terms[here]))

    def test_no_ring(self):
        book = book_with(a="one", b="a", c="b", d="one")
        book.keep("d", "c", anew=True)
        book.keep("c", "a", anew=True)
        book.keep("b", "d", anew=True)
        self.assertEqual(book.leans("b"), ["a", "c", "d"])

    def test_what_making_refuses(self):
        book = book_with(a="one", x=f"{X}^40")
        for error, text in ((NotApart, "[0 01]"), (NotApart, "x * [1 1]"), (BadTable, "{0>1}"), (TooGreat, GREAT),
                            (TooGreat, "x^2"), (TooGreat, "x * x * x'"), (NotApart, "[- 0] * {0>1}"),
                            (BadTable, "{0>1} * [- 0]"), (TooGreat, "x^2 * [0 0]"), (NotApart, "[0 0] * x^2")):
            self.refused(error, book.keep, "b", text)
            self.refused(error, book.keep, "a", text, anew=True)

    def test_breaks(self):
        book = book_with(x=f"{X}^2", b="x^2", a="b", c="x", d="one", e="d")
        self.assertEqual(self.refused(Breaks, book.keep, "x", f"{X}^40", anew=True).name, "a")
        book.drop("a")
        self.assertEqual(self.refused(Breaks, book.keep, "x", f"{X}^40", anew=True).name, "b")
        book.drop("b")
        book.keep("x", f"{X}^40", anew=True)
        self.assertEqual(len(book.swap("c")), 42)

    def test_breaks_one_that_does_not_lean_straight(self):
        book = book_with(x=f"{X}^2", z="x", a="z^2", b="z")
        self.assertEqual(self.refused(Breaks, book.keep, "x", f"{X}^50", anew=True).name, "a")
        self.refused(Breaks, book.keep, "z", f"{X}^50", anew=True)
        book.keep("x", f"{X}^30", anew=True)
        self.assertEqual(len(book.swap("a")), 62)

    def test_drop(self):
        book = book_with(a="one", c="a", b="a", d="b")
        for name in ("x", "", "one", "A", "abcdefghi", "a b", "a\n"):
            self.refused(NoName, book.drop, name)
        self.assertEqual(self.refused(InUse, book.drop, "a").name, "b")
        self.assertEqual(self.refused(InUse, book.drop, "b").name, "d")
        book.drop("d")
        self.assertEqual(self.refused(InUse, book.drop, "a").name, "b")
        book.drop("b")
        self.assertEqual(self.refused(InUse, book.drop, "a").name, "c")
        book.drop("c")
        book.drop("a")
        self.assertEqual((book.names(), len(book)), ([], 0))

    def test_in_use_tells_whom_it_is_straight_for(self):
        book = book_with(z="one", y="z", a="y")
        self.assertEqual(self.refused(InUse, book.drop, "z").name, "y")

    def test_in_its_order(self):
        # Of each two refusals that may be due at once, the one told first goes.
        some = book_with(x=f"{X}^2", y="x^2", z="y")
        full = full_book()
        both = Book()
        both.keep("a", f"{X}^2")
        both.keep("b", "a^2")
        for name in LETTERS[2:24]:
            both.keep(name, "one")
        for error, book, name, text, anew in (
                (BadName, full, "one", "one", False), (BadName, some, "One", "", False), (BadName, some, "1", "q",
                                                                                          True),
                (BadName, some, "", "[0 0]", False), (BadName, some, "one", "{0>1}", True),
                (BadName, some, "x y", GREAT, False), (BadName, full, "a" * 9, "(", False),
                (Taken, full, "a", "one", False), (Taken, some, "x", "", False), (Taken, some, "x", "q", False),
                (Taken, some, "x", "z", False), (Taken, some, "x", "x", False), (Taken, some, "x", "[0 0]", False),
                (Taken, some, "x", GREAT, False), (Taken, both, "a", f"{X}^40", False),
                (Full, full, "z", "", False), (Full, full, "z", "q", False), (Full, full, "z", "z", True),
                (Full, full, "z", "[0 0]", False), (Full, full, "z", "{0>1}", True), (Full, full, "z", GREAT, False),
                (BadText, some, "q", "w * q * ", False), (BadText, some, "x", "z * [0 0] * (", True),
                (BadText, full, "a", "zz *", True), (BadText, some, "x", f"{GREAT} * w *", True),
                (NoName, some, "x", "z * q", True), (NoName, some, "x", "q * x", True), (NoName, some, "q", "q", True),
                (NoName, some, "x", "[0 0] * q", True), (NoName, some, "w", "{0>1} * q", False),
                (NoName, some, "x", f"{GREAT} * q", True), (NoName, some, "x", f"{X}^40 * q^0", True),
                (Ring, some, "x", "[0 0] * z", True), (Ring, some, "x", "{0>1} * x", True),
                (Ring, some, "x", f"{GREAT} * y", True), (Ring, some, "x", f"{X}^40 * y^0", True),
                (NotApart, some, "x", f"[0 0] * {X}^40", True), (BadTable, some, "x", f"{X}^40 * {{0>1}}", True),
                (TooGreat, some, "x", GREAT, True), (Breaks, some, "x", f"{X}^40", True),
                (Breaks, both, "a", f"{X}^40", True)):
            with self.subTest((error, name, text)):
                self.refused(error, book.keep, name, text, anew=anew)

    def test_lower_names_of_the_classes(self):
        book = book_with(a="one")
        for above, deed, handed in ((SwapError, book.keep, ("A", "one")), (Lacking, book.keep, ("b", "c")),
                                    (Held, book.keep, ("a", "one")), (Lacking, book.drop, ("b",))):
            self.assertRaises(above, deed, *handed)


class TakenBack(Whole):
    def test_one_by_one(self):
        book = Book()
        stages = [state(book)[:4]]
        words = []
        for deed in (lambda: book.keep("a", "one"), lambda: book.keep("b", "a"), lambda: book.keep("a", X, anew=True),
                     lambda: book.drop("b"), lambda: book.keep("b", "a'"), lambda: book.drop("b"),
                     lambda: book.drop("a")):
            deed()
            stages.append(state(book)[:4])
        words = ["keep", "keep", "keep", "drop", "keep", "drop", "drop"]
        for _ in range(2):
            for at in range(len(words) - 1, -1, -1):
                self.assertEqual(book.undo(), words[at])
                self.assertEqual(state(book)[:4], stages[at])
            self.assertRaises(NothingLeft, book.undo)
            for at, word in enumerate(words):
                self.assertEqual(book.redo(), word)
                self.assertEqual(state(book)[:4], stages[at + 1])
            self.assertRaises(NothingLeft, book.redo)
        self.assertEqual(book.tried(), 7)

    def test_a_granted_deed_lets_go(self):
        for deed in (lambda book: book.keep("z", "one"), lambda book: book.drop("a"),
                     lambda book: book.keep("a", "one", anew=True)):
            book = book_with(a="one", b="[0 1]", c="one")
            book.undo()
            book.undo()
            deed(book)
            self.assertRaises(NothingLeft, book.redo)
            book.undo()
            self.assertEqual(book.names(), ["a"])
            self.assertIn(book.redo(), ("keep", "drop"))

    def test_a_refused_deed_does_not(self):
        book = book_with(a="one", b="a", c="b")
        book.undo()
        for error, deed, handed in ((BadName, book.keep, ("one", "one")), (Taken, book.keep, ("a", "one")),
                                    (BadText, book.keep, ("c", "")), (NoName, book.drop, ("c",)),
                                    (InUse, book.drop, ("a",)), (NoName, book.keep, ("c", "c"))):
            self.refused(error, deed, *handed)
        self.assertEqual((book.redo(), book.names()), ("keep", ["a", "b", "c"]))
        self.assertEqual([book.undo() for _ in range(3)], ["keep"] * 3)

    def test_nothing_left_changes_nothing(self):
        book = book_with(a="one")
        for step in ("redo", "undo"):
            before = whole(book)
            if step == "undo":
                book.undo()
                before = whole(book)
            with self.assertRaises(NothingLeft):
                getattr(book, step)()
            self.assertEqual(whole(book), before)

    def test_tried(self):
        book = Book()
        for many, (error, deed, handed) in enumerate(((None, book.keep, ("a", "one")), (Taken, book.keep, ("a", "one")),
                                                      (BadName, book.keep, ("", "one")), (None, book.keep, ("b", "a")),
                                                      (InUse, book.drop, ("a",)), (None, book.drop, ("b",)),
                                                      (NoName, book.drop, ("b",)), (BadText, book.keep, ("c", "("))),
                                                     1):
            if error is None:
                deed(*handed)
            else:
                self.assertRaises(error, deed, *handed)
            self.assertEqual((book.tried(), book.at_rest()), (many, True))
        for step in (book.undo, book.undo, book.redo, book.undo, book.undo):
            step()
            self.assertEqual((book.tried(), book.at_rest()), (8, True))
        self.assertRaises(NothingLeft, book.undo)
        self.assertEqual(book.tried(), 8)

    def test_asking_is_no_try(self):
        book = book_with(a=X, b="a")
        before = whole(book)
        for ask in (lambda: book.asked("a * b"), lambda: book.swap("a"), lambda: book.names(), lambda: book.leans("b"),
                    lambda: book.term("b"), lambda: book.twin(), lambda: len(book), lambda: book == Book()):
            self.assertEqual(ask(), ask())
        for error, ask in ((NoName, lambda: book.asked("q")), (BadText, lambda: book.asked("")),
                           (TooGreat, lambda: book.asked(GREAT)), (NoName, lambda: book.term("q")),
                           (NoName, lambda: book.swap("q")), (NoName, lambda: book.leans("q"))):
            self.assertRaises(error, ask)
        self.assertEqual(whole(book), before)


class Asked(unittest.TestCase):
    def test_terms(self):
        book = book_with(a=X, b="a * [0 1]")
        names = {"a": book.term("a"), "b": book.term("b")}
        for text in ("one", "a", "b", " a*b ", "a ~ b", "0:b'", "[01 1]", X, "a^-3 * b^2"):
            told = book.asked(text)
            self.assertIs(type(told), Swap)
            self.assertEqual(told, made(read_term(text), names=names))

    def test_refused_in_order(self):
        book = book_with(a=X, x=f"{X}^40")
        for error, text in ((BadText, "q * [0 0] * "), (NoName, "[0 0] * q"), (NoName, f"{GREAT} * q"),
                            (NotApart, "[0 0] * {0>1}"), (BadTable, f"{{0>1}} * {GREAT}"), (TooGreat, "x^2 * {0>1}")):
            with self.assertRaises(error) as caught:
                book.asked(text)
            self.assertIs(type(caught.exception), error)
        with self.assertRaises(BadText) as caught:
            book.asked("a * %")
        self.assertEqual(caught.exception.at, 4)

    def test_names_that_are_not_kept(self):
        book = book_with(a="one")
        for name in ("b", "", "one", "A", "a ", "abcdefghi"):
            for ask in (book.term, book.swap, book.leans):
                self.assertRaises(NoName, ask, name)


class Twins(unittest.TestCase):
    def test_alike_and_apart(self):
        book = book_with(a="one", b="a", c="b")
        book.undo()
        self.assertRaises(Taken, book.keep, "a", "one")
        twin = book.twin()
        self.assertIs(type(twin), Book)
        before = whole(book)
        self.assertEqual(whole(twin), before)
        self.assertEqual(twin, book)
        twin.drop("b")
        twin.keep("q", "a")
        self.assertEqual(whole(book), before)
        self.assertNotEqual(twin, book)
        twin = book.twin()
        there = whole(twin)
        book.redo()
        book.undo()
        book.undo()
        book.keep("z", "one")
        self.assertEqual(whole(twin), there)
        self.assertEqual((twin.redo(), twin.names()), ("keep", ["a", "b", "c"]))

    def test_made_apart(self):
        one, other = Book(), Book()
        one.keep("a", "one")
        self.assertEqual((other.names(), other.tried()), ([], 0))
        self.assertRaises(NothingLeft, other.undo)


class Equal(unittest.TestCase):
    def test_by_names_and_terms(self):
        one = book_with(a="one", b="[0 1]")
        other = book_with(b=" [ 0 1 ]", c="b", a="one")
        self.assertTrue(one != other)
        other.drop("c")
        self.assertTrue(one == other)
        self.assertFalse(one != other)
        other.keep("b", "[1 0]", anew=True)
        # The exchange is the same, but the term is not.
        self.assertEqual(one.swap("b"), other.swap("b"))
        self.assertTrue(one != other)
        other.undo()
        self.assertTrue(one == other)
        self.assertTrue(Book() == Book())
        self.assertFalse(book_with(a="one") == book_with(b="one"))

    def test_beside_other_things(self):
        for book in (Book(), book_with(a="one")):
            for thing in (None, 0, 1, "", "a", [], ["a"], (), {}, {"a": ("one",)}, True, False, Swap(), Book):
                self.assertFalse(book == thing)
                self.assertFalse(thing == book)
                self.assertTrue(book != thing)


class Told(unittest.TestCase):
    def test_may_be_changed(self):
        book = book_with(a="one", b="a")
        before = whole(book)
        for told in (book.names(), book.leans("b")):
            self.assertIs(type(told), list)
            told.append("x")
            told.sort(reverse=True)
        self.assertEqual(whole(book), before)

    def test_kinds(self):
        book = book_with(a="one", b="a")
        self.assertEqual([type(told) for told in (book.names(), book.term("b"), book.swap("b"), book.leans("b"),
                                                  book.asked("b"), book.tried(), book.at_rest(), book.twin(), len(book),
                                                  book.undo(), book.redo())],
                         [list, tuple, Swap, list, Swap, int, bool, Book, int, str, str])

    def test_interface(self):
        wanted = {"keep": ["name", "text", "anew"], "drop": ["name"], "undo": [], "redo": [], "names": [],
                  "term": ["name"], "swap": ["name"], "leans": ["name"], "asked": ["text"], "tried": [], "at_rest": [],
                  "twin": [], "__eq__": ["other"], "__len__": []}
        self.assertEqual(list(inspect.signature(book_module.Book).parameters), [])
        for name, handed in wanted.items():
            self.assertIn(name, vars(Book))
            self.assertEqual(list(inspect.signature(getattr(Book, name)).parameters)[1:], handed)
        anew = inspect.signature(Book.keep).parameters["anew"]
        self.assertEqual((anew.kind, anew.default), (inspect.Parameter.KEYWORD_ONLY, False))
        book = Book()
        book.keep(text="one", name="a")
        book.keep(anew=True, text="[0 1]", name="a")
        self.assertEqual((book.term(name="a"), book.leans(name="a")), (("plain", "0", "1"), []))
        self.assertEqual(book.swap(name="a"), book.asked(text="a"))
        book.drop(name="a")
        self.assertRaises(TypeError, book.keep, "a", "one", True)


class Model:
    """A book as plain as it can be: all is found anew each time."""

    def __init__(self):
        self.terms = {}
        self.done, self.undone, self.tried = [], [], 0

    def leans(self, terms, name):
        told = set()
        for inner in names_in(terms[name]):
            told |= {inner} | self.leans(terms, inner)
        return told

    def makes(self, terms, name):
        try:
            made(terms[name], names=terms)
        except TooGreat:
            return False
        return True

    def wrong(self, name, text, anew):
        """The class that refuses a keeping, with its field, or None."""
        if name == "one" or not 1 <= len(name) <= 8 or any(sign not in LETTERS for sign in name):
            return BadName, None
        if name in self.terms and not anew:
            return Taken, None
        if name not in self.terms and len(self.terms) == 24:
            return Full, None
        try:
            term = read_term(text)
        except BadText as error:
            return BadText, error.at
        if any(inner not in self.terms for inner in names_in(term)):
            return NoName, None
        if any(inner == name or name in self.leans(self.terms, inner) for inner in names_in(term)):
            return Ring, None
        try:
            made(term, names=self.terms)
        except (NotApart, BadTable, TooGreat) as error:
            return type(error), None
        terms = {**self.terms, name: term}
        broken = [other for other in terms if name in self.leans(terms, other) and not self.makes(terms, other)]
        return (Breaks, min(broken)) if broken else None

    def wrong_drop(self, name):
        if name not in self.terms:
            return NoName, None
        users = [other for other in self.terms if name in names_in(self.terms[other])]
        return (InUse, min(users)) if users else None

    def change(self, word, terms):
        self.done.append((word, self.terms))
        self.terms, self.undone = terms, []


class ByLot(unittest.TestCase):
    TEXTS = ("one", "[0 1]", X, f"{X}^2", f"{X}^30", f"{X}^30", f"{X}^40", f"{X}^40", "[0 0]", "{0>1}", "", "Q", GREAT)

    def text(self, lots, names):
        if lots.random() < 0.3:
            return lots.choice(self.TEXTS)
        some = [lots.choice(names) + lots.choice(("", "'", "^2", "^0")) for _ in range(lots.randrange(1, 4))]
        return lots.choice((" * ", " ~ ", "*")).join(some + [lots.choice(("one", X, "[10 11]"))])

    def compare(self, book, model):
        self.assertEqual(book.names(), sorted(model.terms))
        self.assertEqual((book.tried(), len(book), book.at_rest()), (model.tried, len(model.terms), True))
        for name, term in model.terms.items():
            self.assertEqual(book.term(name), term)
            self.assertEqual(book.leans(name), sorted(model.leans(model.terms, name)))

    def step(self, book, model, lots, names):
        deed = lots.choice(("keep", "keep", "keep", "anew", "anew", "drop", "undo", "redo"))
        if deed in ("undo", "redo"):
            source, goal = (model.done, model.undone) if deed == "undo" else (model.undone, model.done)
            if not source:
                self.assertRaises(NothingLeft, getattr(book, deed))
                return NothingLeft
            word, terms = source.pop()
            goal.append((word, model.terms))
            model.terms = terms
            self.assertEqual(getattr(book, deed)(), word)
            return deed
        model.tried += 1
        name = lots.choice(names + ["one"])
        if deed == "drop":
            wrong = model.wrong_drop(name)
            run = lambda: book.drop(name)
            terms = {other: term for other, term in model.terms.items() if other != name}
        else:
            text = self.text(lots, names)
            wrong = model.wrong(name, text, deed == "anew")
            run = lambda: book.keep(name, text, anew=deed == "anew")
            terms = {**model.terms, name: read_term(text)} if wrong is None else None
        if wrong is None:
            self.assertIsNone(run())
            model.change("drop" if deed == "drop" else "keep", terms)
            return deed
        error, field = wrong
        with self.assertRaises(error) as caught:
            run()
        self.assertIs(type(caught.exception), error)
        if error in (BadText, Breaks, InUse):
            self.assertEqual(getattr(caught.exception, "at" if error is BadText else "name"), field)
        return error

    def test_many_deeds(self):
        met = set()
        for seed, names in ((1, list("abcd")), (2, list("abcdefgh")), (3, list(LETTERS)), (4, ["x", "yy", "zzz"])):
            lots = random.Random(seed)
            book, model = Book(), Model()
            for _ in range(700):
                met.add(self.step(book, model, lots, names))
                self.compare(book, model)
        wanted = {"keep", "anew", "drop", "undo", "redo", BadName, Taken, BadText, NoName, Ring, NotApart, BadTable,
                  TooGreat, Breaks, InUse, NothingLeft}
        self.assertEqual(wanted - met, set())


if __name__ == "__main__":
    unittest.main()

"""Promises [1] and [22]: books as they are written."""

import inspect
import itertools
import random
import re
import string
import unittest

from headswap import pages
from headswap.book import Book
from headswap.errors import BadText, Held, Lacking, NothingLeft, SwapError
from headswap.pages import page_of, read_page
from headswap.terms import read_term, term_text

X = "{00>0 01>10 1>11}"
LETTERS = string.ascii_lowercase


def book_with(**texts):
    book = Book()
    for name, text in texts.items():
        book.keep(name, text)
    return book


def examples():
    net = Book()
    for at in range(24):
        net.keep(LETTERS[at], "*".join(LETTERS[:at]) or "[0 1]")
    chain = Book()
    for at in range(24):
        chain.keep(LETTERS[23 - at], LETTERS[24 - at] + "'" if at else X)
    return [Book(), book_with(a="one"), book_with(z="[0 1]", b="z * z", a="b ~ z", y="one", c="y", x=X),
            book_with(b="{->-}", a="[10 0]", abcdefgh="a^-2 * b' ~ a", c="-:a", d="01:(a * b)"),
            book_with(none="one", of="none", drop="of * none", names="one", keep="drop'"), net, chain]


BOOKS = examples()


def state(book):
    names = book.names()
    return names, [(book.term(name), book.swap(name), book.leans(name)) for name in names], len(book)


def first_fault(text):
    """The number of the first row that is wrong, or None of a page."""
    rows = text.split("\n")
    book, ahead = Book(), None
    for at, row in enumerate(rows):
        if at == len(rows) - 1:
            return None if row == "" else at
        found = re.fullmatch("([a-z]{1,8}) = (.*)", row)
        if not found:
            return at
        name, written = found.groups()
        try:
            book.keep(name, written)
        except (SwapError, Lacking, Held):
            return at
        key = (len(book.leans(name)), name)
        if term_text(read_term(written)) != written or ahead is not None and key < ahead:
            return at
        ahead = key
    return None


class Whole(unittest.TestCase):
    def look(self, text):
        """That a text is read just where it is a page, and else refused by the number of its first wrong row."""
        wanted = first_fault(text)
        if wanted is None:
            self.assertEqual(page_of(read_page(text)), text)
        else:
            self.refused(text, wanted)

    def refused(self, text, at):
        with self.assertRaises(BadText) as caught:
            read_page(text)
        self.assertIs(type(caught.exception), BadText)
        self.assertEqual(caught.exception.at, at, text)


class Written(unittest.TestCase):
    def test_known(self):
        self.assertEqual(page_of(Book()), "")
        self.assertEqual(page_of(book_with(a=" [ 0 1 ]")), "a = [0 1]\n")
        self.assertEqual(page_of(book_with(z="[0 1]", b="z*z", a="b~z", y="one", c="y")),
                         "y = one\nz = [0 1]\nb = z * z\nc = y\na = b ~ z\n")

    def test_by_how_many_it_leans_on_straight_or_not(self):
        # d leans straight on one name, but in all on three; e leans straight on two and no more.
        book = book_with(a="one", b="a", c="b", d="c", f="one", e="a * f", g="a * a * a")
        self.assertEqual([row.split()[0] for row in page_of(book).splitlines()], ["a", "f", "b", "g", "c", "e", "d"])

    def test_in_order(self):
        for book in BOOKS:
            page = page_of(book)
            rows = page.splitlines()
            self.assertEqual(page, "".join(row + "\n" for row in rows))
            names = [row.partition(" = ")[0] for row in rows]
            keys = [(len(book.leans(name)), name) for name in names]
            self.assertEqual(keys, sorted(keys))
            self.assertEqual(sorted(names), book.names())
            for name, row in zip(names, rows):
                self.assertEqual(row, f"{name} = {term_text(book.term(name))}")

    def test_asking_changes_nothing(self):
        for book in BOOKS:
            before = state(book), book.tried()
            self.assertEqual(page_of(book), page_of(book))
            self.assertEqual((state(book), book.tried()), before)


class Read(Whole):
    def test_what_was_written(self):
        for book in BOOKS:
            told = read_page(page_of(book))
            self.assertIs(type(told), Book)
            self.assertEqual(told, book)
            self.assertEqual(state(told), state(book))
            self.assertEqual(page_of(told), page_of(book))

    def test_nothing_to_take_back_and_nothing_tried(self):
        for book in BOOKS:
            told = read_page(page_of(book))
            self.assertEqual((told.tried(), told.at_rest()), (0, True))
            self.assertRaises(NothingLeft, told.undo)
            self.assertRaises(NothingLeft, told.redo)

    def test_goes_its_own_way(self):
        page = "a = one\n"
        one, other = read_page(page), read_page(page)
        one.keep("b", "a")
        self.assertEqual((one.tried(), other.names(), other.tried()), (1, ["a"], 0))
        self.assertEqual((one.undo(), one.names()), ("keep", ["a"]))

    def test_terms_that_are_written_longer_than_they_may_be_handed_in(self):
        long = book_with(a="one", b="a" + "*a" * 79, c="a*b" + "~[0 1]" * 26, d="{->-}" + "*{->-}" * 25,
                         e="a^-1*-:b" + "*[01 1]'" * 19, f="(a" + "*a" * 50 + ")~a'" + "~(a*-:one)" * 5)
        for name in long.names()[1:]:
            self.assertGreater(len(term_text(long.term(name))), 160)
        self.assertEqual(read_page(page_of(long)), long)
        self.assertEqual(page_of(read_page(page_of(long))), page_of(long))
        # No text of at most 160 signs is read as this one.
        self.refused("a = one\nb = a" + " * a" * 80 + "\n", 1)
        self.refused("a = one\nb = " + "a*a" + " * a" * 78 + "\n", 1)

    def test_no_rows(self):
        self.assertEqual(read_page(""), Book())
        self.refused("\n", 0)
        self.refused("\n\n", 0)
        self.refused(" ", 0)
        self.refused("a", 0)


class Refused(Whole):
    def test_known(self):
        for text, at in (("a = one", 0), ("a = one\nb = a", 1), ("a = one\n\n", 1), ("\na = one\n", 0),
                         ("b = a\na = one\n", 0), ("b = one\na = one\n", 1), ("a = one\na = one\n", 1),
                         ("a = one\nc = a\nb = one\n", 2), ("a = one\nc = a\nb = a\n", 2), ("a = a\n", 0),
                         ("a  = one\n", 0), ("a =  one\n", 0), ("a = one \n", 0), (" a = one\n", 0), ("a := one\n", 0),
                         ("a=one\n", 0), ("a = (one)\n", 0), ("a = [0  1]\n", 0), ("a = [0 1 ]\n", 0), ("A = one\n", 0),
                         ("one = one\n", 0), ("a = one\nabcdefghi = a\n", 1), ("a = one\n = a\n", 1), ("a = \n", 0),
                         ("a = one\nb = a*a\n", 1), ("a = one\nb = (a * a) * a\n", 1), ("a = [0 0]\n", 0),
                         ("a = {0>1}\n", 0), (f"a = {X}^40\nb = a^2\n", 1), (f"a = {X}^40^2\n", 0),
                         ("a = one\nb = c\n", 1), ("a = one = one\n", 0), ("a = one\r\n", 0), ("a = b\nb = a\n", 0),
                         ("a = one\nb = a^1 \n", 1), ("a = one\nb = a^61\n", 1), ("a = [-1]\n", 0), ("a = [- 1]\n", 0),
                         ("a = {- >-}\n", 0)):
            with self.subTest(text):
                self.assertEqual(first_fault(text), at)
                self.refused(text, at)

    def test_full(self):
        rows = [f"{name} = one\n" for name in LETTERS]
        self.assertEqual(read_page("".join(rows[:24])).names(), list(LETTERS[:24]))
        self.refused("".join(rows[:25]), 24)
        self.refused("".join(rows), 24)

    def test_rows_out(self):
        for book in BOOKS:
            rows = page_of(book).splitlines(keepends=True)
            for at in range(len(rows)):
                self.look("".join(rows[:at] + rows[at + 1:]))

    def test_rows_twice(self):
        for book in BOOKS:
            rows = page_of(book).splitlines(keepends=True)
            for at in range(len(rows)):
                self.refused("".join(rows[:at + 1] + rows[at:]), at + 1)

    def test_rows_exchanged(self):
        for book in BOOKS:
            rows = page_of(book).splitlines(keepends=True)
            for one, other in itertools.combinations(range(min(len(rows), 9)), 2):
                changed = list(rows)
                changed[one], changed[other] = changed[other], changed[one]
                self.assertIsNotNone(first_fault("".join(changed)))
                self.look("".join(changed))

    def test_rows_moved(self):
        lots = random.Random(22)
        for book in BOOKS[2:]:
            rows = page_of(book).splitlines(keepends=True)
            for _ in range(20):
                changed = list(rows)
                changed.insert(lots.randrange(len(rows)), changed.pop(lots.randrange(len(rows))))
                self.look("".join(changed))

    def test_line_feeds_out(self):
        for book in BOOKS:
            page = page_of(book)
            for at, sign in enumerate(page):
                if sign == "\n":
                    self.look(page[:at] + page[at + 1:])
                    self.assertIsNotNone(first_fault(page[:at] + page[at + 1:]))

    def test_bent(self):
        lots = random.Random(23)
        for book in BOOKS:
            page = page_of(book)
            for _ in range(120 if len(book) < 10 else 25):
                at = lots.randrange(len(page) + 1)
                sign = lots.choice("abz019 -^~*'[]{}>=:()\n")
                for text in (page[:at] + sign + page[at:], page[:at] + sign + page[at + 1:], page[:at] + page[at + 1:]):
                    self.look(text)

    def test_cut_off(self):
        for book in BOOKS[:5]:
            page = page_of(book)
            for many in range(len(page)):
                self.look(page[:many])
                self.look(page[many:])

    def test_all_short_texts(self):
        for many in range(4):
            for signs in itertools.product("a =\n", repeat=many):
                self.look("".join(signs))
        for signs in itertools.product(("a = one", "b = a", "b = one", "\n", "\n", " "), repeat=4):
            self.look("".join(signs))


class Interface(unittest.TestCase):
    def test_arguments(self):
        for name, wanted in {"page_of": ["book"], "read_page": ["text"]}.items():
            self.assertEqual(list(inspect.signature(getattr(pages, name)).parameters), wanted)
        self.assertEqual(page_of(book=read_page(text="a = one\n")), "a = one\n")
        self.assertIs(type(page_of(Book())), str)


if __name__ == "__main__":
    unittest.main()

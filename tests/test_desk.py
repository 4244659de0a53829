"""Promises [1] and [23]: desks and their answers to lines."""

import inspect
import itertools
import random
import re
import unittest

from headswap import desk as desk_module
from headswap.book import Book
from headswap.desk import Desk
from headswap.endless import read_endless
from headswap.errors import Held, Lacking, SwapError
from headswap.keeping import keeps
from headswap.life import Life
from headswap.pages import page_of
from headswap.terms import term_text

X = "{00>0 01>10 1>11}"
GREAT = f"{X}^40^2"


def desk_with(*lines):
    desk = Desk()
    for line in lines:
        if desk.say(line) != "done":
            raise AssertionError(line)
    return desk


def answer(book, line):
    """The answer to a line by its form; a line of the first two forms is one, whatever its name is."""
    def form(shape):
        found = re.fullmatch(shape, line, re.DOTALL)
        return found and found.groups()

    def none_or(told):
        return "none" if told in (None, "") else str(told)

    if parts := form("([^ ]*) (:?)= (.*)"):
        book.keep(parts[0], parts[2], anew=parts[1] == ":")
        return "done"
    if parts := form("drop ([^ ]*)"):
        book.drop(parts[0])
        return "done"
    if line in ("undo", "redo"):
        return getattr(book, line)()
    if line == "names":
        return none_or(" ".join(book.names()))
    if parts := form("show ([^ ]*)"):
        return term_text(book.term(parts[0]))
    if parts := form("(rows|order|keeps) (.*)"):
        swap = book.asked(parts[1])
        return {"rows": str, "order": lambda it: none_or(Life(it).order()), "keeps": keeps}[parts[0]](swap)
    if parts := form("of ([^ ]*) (.*)"):
        row = read_endless(parts[0])
        return str(book.asked(parts[1]).of(row))
    return "what"


def wanted_answer(book, line):
    try:
        return answer(book, line)
    except (SwapError, Lacking, Held) as error:
        return "no " + type(error).__name__


class Whole(unittest.TestCase):
    def look(self, desk, *pairs):
        for line, wanted in pairs:
            told = desk.say(line)
            self.assertEqual(told, wanted, line)
            self.assertIs(type(told), str)


class Granted(Whole):
    def test_each_form(self):
        self.look(Desk(), ("names", "none"), (f"x = {X}", "done"), ("names", "x"), ("b =  [0 1]*x ", "done"),
                  ("names", "b x"), ("show b", "[0 1] * x"), ("show x", X), ("b := x * x", "done"), ("show b", "x * x"),
                  ("rows b", "{000>0 001>10 01>110 1>111}"), ("rows one", "{->-}"),
                  ("rows  b' ", "{0>000 10>001 110>01 111>1}"), ("order x", "none"), ("order one", "1"),
                  ("order [0 1]", "2"), ("order [0 1] * x", "3"), ("keeps x", "order"), ("keeps [0 1]", "round"),
                  ("keeps [00 01]", "none"), ("keeps one", "order"), ("of (0) x", "(0)"), ("of 01(10) x", "(10)"),
                  ("of 00(1) b", "10(1)"), ("of 0(00) [0 1]", "1(0)"), ("undo", "keep"), ("show b", "[0 1] * x"),
                  ("redo", "keep"), ("show b", "x * x"), ("drop b", "done"), ("names", "x"), ("undo", "drop"),
                  ("names", "b x"), ("redo", "drop"), ("drop x", "done"), ("names", "none"))

    def test_anew_of_a_name_that_is_not_kept(self):
        self.look(Desk(), ("a := one", "done"), ("b := a", "done"), ("names", "a b"), ("c := c", "no NoName"))

    def test_names_that_are_words_of_the_desk(self):
        for name in ("drop", "undo", "redo", "names", "show", "rows", "order", "keeps", "of", "what", "no", "done",
                     "none"):
            desk = desk_with(f"{name} = [0 1]", f"{name} := one * one")
            self.look(desk, ("names", name), (f"show {name}", "one * one"), (f"rows {name}", "{->-}"),
                      (f"{name} = one", "no Taken"), (f"drop {name}", "done"), ("names", "none"))

    def test_long_rows(self):
        desk = Desk()
        for head, ring in (("0" * 1500, "1" * 1500), ("01" * 40, "001" * 30)):
            row = f"{head}({ring})"
            self.look(desk, (f"of {row} one", str(read_endless(row))),
                      (f"of {row} [0 1]", "1" + str(read_endless(row))[1:]))

    def test_great_orders(self):
        rows = " ".join(f"{'1' * at}0>{'0' * at}1" for at in range(9))
        desk = desk_with(f"a = {{{rows} {'1' * 9}>{'0' * 9}}}")
        self.look(desk, ("order a", "512"), ("order a^2", "256"), ("order a^-3", "512"), ("rows a^0", "{->-}"))


class Refused(Whole):
    def test_each_class(self):
        desk = desk_with(f"x = {X}^2", "y = x^2", "z = y")
        self.look(desk, ("one = one", "no BadName"), ("x = one", "no Taken"), ("q = (", "no BadText"),
                  ("q = w", "no NoName"), ("q = q", "no NoName"), ("x := z", "no Ring"), ("q = [0 0]", "no NotApart"),
                  ("q = {0>1}", "no BadTable"), (f"q = {GREAT}", "no TooGreat"), (f"x := {X}^40", "no Breaks"),
                  ("drop x", "no InUse"), ("drop q", "no NoName"), ("redo", "no NothingLeft"), ("show q", "no NoName"),
                  ("rows q", "no NoName"), ("rows [0 0]", "no NotApart"), ("order {0>1}", "no BadTable"),
                  (f"keeps {GREAT}", "no TooGreat"), ("of (0) q", "no NoName"), ("of (0) )", "no BadText"),
                  ("of 0 one", "no BadText"), ("of (0 one", "no BadText"), ("of () one", "no BadText"),
                  ("names", "x y z"))
        self.assertEqual(desk.book().tried(), 3 + 12)
        self.look(desk, *[("undo", "keep")] * 3, ("undo", "no NothingLeft"), ("undo", "no NothingLeft"))
        self.look(desk, *[(f"{sign * 2} = one", "done") for sign in "abcdefghijklmnopqrstuvwx"], ("z = one", "no Full"))

    def test_the_row_goes_first(self):
        desk = desk_with("a = one")
        self.look(desk, ("of x [0 0]", "no BadText"), ("of x q", "no BadText"), ("of (0) q", "no NoName"),
                  ("of (0) [0 0]", "no NotApart"), (f"of (2) {GREAT}", "no BadText"),
                  (f"of (1) {GREAT}", "no TooGreat"), ("of - {0>1}", "no BadText"), ("of (1) {0>1}", "no BadTable"))

    def test_changes_nothing_but_the_tries(self):
        desk = desk_with("a = one", "b = a")
        desk.say("undo")
        before = page_of(desk.book())
        for line in ("a = one", "A = one", "b = (", "b = q", "drop q", "show q", "rows (", "of x a", "what", "",
                     "a := a"):
            self.assertIn(desk.say(line)[:3], ("no ", "wha"))
        self.assertEqual(page_of(desk.book()), before)
        self.assertEqual(desk.book().tried(), 8)
        self.look(desk, ("redo", "keep"), ("names", "a b"))


class Forms(Whole):
    def test_no_signs(self):
        self.look(desk_with("a = one"), (" = one", "no BadName"), (" := one", "no BadName"), ("b = ", "no BadText"),
                  (" = ", "no BadName"), (" := ", "no BadName"), ("a = ", "no Taken"), ("a := ", "no BadText"),
                  ("drop ", "no NoName"), ("show ", "no NoName"), ("rows ", "no BadText"), ("order ", "no BadText"),
                  ("keeps ", "no BadText"), ("of  one", "no BadText"), ("of (0) ", "no BadText"),
                  ("of  ", "no BadText"))

    def test_nearly(self):
        desk = desk_with("a = one")
        for line in ("", " ", "what", "a", "a =", "a=one", "a= one", "a =one", "a :=", "a :=one", "a : = one", " =",
                     " :=", "=", ":=", "= one", ":= one", "a  = one", "a b = one", " a = one", "drop", "drop a b",
                     "drop  a", "drop a ", " drop a", "Drop a", "undo ", " undo", "undo a", "UNDO", "redo ",
                     "redo redo", "names ", "names a", " names", "name", "show", "show a b", "show a ", "show  a",
                     "rows", "order", "keeps", "of", "of ", "of (0)", "off (0) one", " of (0) one", "of(0) one",
                     "ordera", "row one", "keep a", "keep one", "\n", "undo\n", "names\n", "drop\n", "\nundo",
                     "rows\none", "rows\n one", "none", "done", "dropa"):
            self.look(desk, (line, "what"))
        self.assertEqual((desk.book().names(), desk.book().tried()), (["a"], 1))

    def test_any_signs(self):
        desk = desk_with("a = one")
        self.look(desk, ("a\n = one", "no BadName"), ("\n = one", "no BadName"), ("b = one\n", "no BadText"),
                  ("drop a\n", "no NoName"), ("show \n", "no NoName"), ("rows a\n", "no BadText"),
                  ("of (0)\n a", "no BadText"), ("of (0) a\n", "no BadText"), ("a=b = one", "no BadName"),
                  ("= = one", "no BadName"), (":= = one", "no BadName"), ("= := one", "no BadName"),
                  ("~ = one", "no BadName"), ("a = = one", "no Taken"), ("b = = one", "no BadText"),
                  ("b := := one", "no BadText"), ("rows = one", "done"), ("rows =", "no BadText"),
                  ("rows =one", "no BadText"), ("of = one", "done"), ("of =  one", "no Taken"),
                  ("of := one * one", "done"), ("names", "a of rows"), ("undo = one", "done"),
                  ("drop = x", "no NoName"), ("drop =", "no NoName"), ("drop :=", "no NoName"),
                  ("drop = ", "no BadText"), ("show =", "no NoName"), ("of (0) = one", "no BadText"),
                  ("of = = one", "no Taken"), ("names = [0 0]", "no NotApart"), ("rows  one", "{->-}"),
                  ("rows one ", "{->-}"), ("of (0)  one ", "(0)"), ("a" * 4000, "what"),
                  ("b = " + "a" * 3996, "no BadText"))

    def test_all_short_lines(self):
        words = ("undo", "drop", "rows", "of", "names", "show", "a", "=", ":=", " ", " ", "one", "(0)", "")
        desk, book = Desk(), Book()
        for parts in itertools.product(words, repeat=3):
            line = "".join(parts)
            self.assertEqual(desk.say(line), wanted_answer(book, line), line)
            self.assertEqual(desk.book(), book)

    def drawn_line(self, lots):
        name = lots.choice(("a", "b", "c", "d", "one", "", "A", "of"))
        terms = ["a", "b", "c", "d'", "one", X, f"{X}^20", f"{X}^40", "[0 1]", "[0 0]", "{0>1}", "(", "", "\n"]
        term = lots.choice(terms[:9] * 3 + terms)
        if lots.random() < 0.5:
            term = lots.choice((f"{term} * {lots.choice(terms[:8])}", f"{term}~b", f"c*{term}", f"({term})^2"))
        row = lots.choice(("(0)", "01(1)", "(", "", "0", "(01)"))
        line = lots.choice((f"{name} = {term}", f"{name} = {term}", f"{name} := {term}", f"drop {name}", "undo", "redo",
                            "names", f"show {name}", f"rows {term}", f"order {term}", f"keeps {term}",
                            f"of {row} {term}"))
        at = lots.randrange(len(line) + 1)
        return line if lots.random() < 0.8 else line[:at] + lots.choice((" ", "", "=", "x")) + line[at + 1:]

    def test_by_lot(self):
        lots = random.Random(23)
        desk, book = Desk(), Book()
        met = set()
        for _ in range(4000):
            line = self.drawn_line(lots)
            told = desk.say(line)
            self.assertEqual(told, wanted_answer(book, line), line)
            met.add(told)
            self.assertEqual((desk.book(), desk.book().tried()), (book, book.tried()))
        for word in ("done", "what", "keep", "drop", "none", "no BadName", "no Taken", "no BadText", "no NoName",
                     "no Ring", "no NotApart", "no BadTable", "no TooGreat", "no InUse", "no NothingLeft"):
            self.assertTrue(word in met, word)


class Books(Whole):
    def test_the_very_book(self):
        for book in (Book(), desk_with("a = one").book()):
            desk = Desk(book)
            self.assertIs(desk.book(), book)
            many = len(book)
            desk.say("q = one")
            self.assertEqual((len(book), book.tried()), (many + 1, many + 1))
            book.keep("w", "q")
            self.look(desk, ("show w", "q"))
        self.assertIs(Desk(book=book).book(), book)

    def test_two_desks_of_one_book(self):
        book = Book()
        one, other = Desk(book), Desk(book)
        self.look(one, ("a = one", "done"))
        self.look(other, ("names", "a"), ("a = one", "no Taken"), ("undo", "keep"))
        self.look(one, ("names", "none"), ("redo", "keep"))
        self.assertEqual(book.tried(), 2)

    def test_a_book_of_its_own(self):
        one, other = Desk(), Desk(None)
        self.assertIs(type(one.book()), Book)
        self.assertIsNot(one.book(), other.book())
        one.say("a = one")
        self.look(other, ("names", "none"))
        self.assertIs(one.book(), one.book())

    def test_asking_changes_nothing(self):
        desk = desk_with(f"a = {X}", "b = a * a")
        before = desk.book().twin()
        for line in ("names", "show a", "rows b", "order b", "keeps a", "of (01) b", "what", "rows q"):
            self.assertEqual(desk.say(line), desk.say(line))
        self.assertEqual((desk.book(), desk.book().tried()), (before, before.tried()))

    def test_interface(self):
        self.assertEqual(list(inspect.signature(desk_module.Desk).parameters), ["book"])
        self.assertIsNone(inspect.signature(desk_module.Desk).parameters["book"].default)
        for name, wanted in {"book": [], "say": ["line"]}.items():
            self.assertIn(name, vars(Desk))
            self.assertEqual(list(inspect.signature(getattr(Desk, name)).parameters)[1:], wanted)
        self.assertEqual(Desk().say(line="names"), "none")


if __name__ == "__main__":
    unittest.main()

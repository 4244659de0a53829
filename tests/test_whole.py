"""Promise [1] and the interface over the whole program, and its parts side by side."""

import copy
import importlib
import inspect
import random
import unittest

from headswap.book import Book
from headswap.desk import Desk
from headswap.endless import Endless, read_endless
from headswap.errors import (BadHead, BadNumber, BadRing, BadTable, BadText, Lacking, NoName, NotApart, NothingLeft,
                             NoRule, SwapError, Taken, TooGreat)
from headswap.heads import apart, common, fault, fewest
from headswap.keeping import keeps, order_fault, round_fault
from headswap.life import Life
from headswap.likeness import alike, shows, stamp
from headswap.making import made
from headswap.pages import page_of, read_page
from headswap.plains import done, plains
from headswap.reader import Reader
from headswap.swaps import Swap, plain
from headswap.terms import names_in, read_term, term_text
from headswap.webs import Web

X = "{00>0 01>10 1>11}"
NAMES = {"x": X, "f": "[0 1]", "y": "x * f", "z": "0:y ~ x"}
TEXTS = ("one", "x", "f", "y", "z", "x' * f ~ z", "x^-3", "(x * f)^2 * z'", "01:x * 1:f", "[010 1] * x",
         "{0>10 10>0 11>11} ~ x^2", "1:(x ~ f) * 0:x")
ROWS = [Endless(head, ring) for head in ("", "0", "1", "00", "01", "110", "0101") for ring in ("0", "1", "01", "110")]

# What DOC.md lists: each name with its arguments, those behind * marked so, and each class with its methods.
FUNCTIONS = {
    "heads": {"is_head": "text", "apart": "one other", "fault": "heads", "fewest": "heads", "common": "one other"},
    "endless": {"read_endless": "text"},
    "swaps": {"plain": "one other"},
    "plains": {"plains": "swap", "done": "pairs"},
    "keeping": {"keeps": "swap", "order_fault": "swap", "round_fault": "swap"},
    "terms": {"read_term": "text", "term_text": "term", "names_in": "term"},
    "making": {"made": "term *names"},
    "likeness": {"alike": "one other", "shows": "one other rows", "stamp": "swap"},
    "pages": {"page_of": "book", "read_page": "text"},
}
CLASSES = {
    "endless": {"Endless": ("head ring", {"head": "", "ring": "", "signs": "*many", "behind": "many", "under": "head",
                                          "starts": "head", "before": "other"})},
    "swaps": {"Swap": ("rows", {"rows": "", "of": "row", "leads": "head", "then": "other", "back": "", "power": "many",
                                "seen": "other", "within": "head", "fixed": "", "parted": "other"})},
    "reader": {"Reader": ("swap", {"put": "signs", "read": "", "told": "", "take": "", "twin": ""})},
    "webs": {"Web": ("swap", {"knots": "", "arcs": "", "rules": "", "do": "rule", "undo": "", "last": "", "swap": "",
                              "twin": ""})},
    "life": {"Life": ("swap", {"rounds": "", "drawn": "", "left": "", "order": "", "grows": "", "future": "row",
                               "past": "row", "steps": "one other"})},
    "book": {"Book": ("", {"keep": "name text *anew", "drop": "name", "undo": "", "redo": "", "names": "",
                           "term": "name", "swap": "name", "leans": "name", "asked": "text", "tried": "", "at_rest": "",
                           "twin": ""})},
    "desk": {"Desk": ("book", {"book": "", "say": "line"})},
}
DEFAULTS = {("swaps", "Swap"): {"rows": (("", ""),)}, ("making", "made"): {"names": ()},
            ("desk", "Desk"): {"book": None},
            ("endless", "Endless.signs"): {"many": 12}, ("book", "Book.keep"): {"anew": False}}
NUMBERS = {"heads": {"LONGEST": 60}, "endless": {"SHOWN": 12}, "swaps": {"MOST_ROWS": 64, "POWERS": 60},
           "terms": {"DEEPEST": 12, "MOST_TEXT": 160}, "book": {"MOST_NAMES": 24}}


def module(name):
    return importlib.import_module(f"headswap.{name}")


def handed(called, skip=0):
    """The names of what is handed in, those behind * marked so, and the defaults."""
    parts = list(inspect.signature(called).parameters.values())[skip:]
    told = [("*" if part.kind == part.KEYWORD_ONLY else "") + part.name for part in parts]
    return " ".join(told), {part.name: part.default for part in parts if part.default is not part.empty}


class Interface(unittest.TestCase):
    def test_numbers(self):
        for place, numbers in NUMBERS.items():
            for name, wanted in numbers.items():
                self.assertEqual(getattr(module(place), name), wanted)

    def test_functions(self):
        for place, functions in FUNCTIONS.items():
            for name, wanted in functions.items():
                told = handed(getattr(module(place), name))
                self.assertEqual(told, (wanted, DEFAULTS.get((place, name), {})), name)

    def test_classes(self):
        for place, classes in CLASSES.items():
            for name, (wanted, methods) in classes.items():
                here = getattr(module(place), name)
                self.assertEqual(handed(here), (wanted, DEFAULTS.get((place, name), {})), name)
                for method, arguments in methods.items():
                    self.assertIn(method, vars(here), name)
                    defaults = DEFAULTS.get((place, f"{name}.{method}"), {})
                    self.assertEqual(handed(vars(here)[method], skip=1), (arguments, defaults), (name, method))

    def test_double_ones_stand_in_the_classes(self):
        for place, name, methods in (("endless", "Endless", "eq str repr"), ("swaps", "Swap", "eq len str repr"),
                                     ("reader", "Reader", "len"), ("webs", "Web", "len"), ("book", "Book", "eq len")):
            for method in methods.split():
                self.assertIn(f"__{method}__", vars(getattr(module(place), name)))

    def test_by_name_and_by_place(self):
        swap, flip, row = Swap(rows=[("00", "0"), ("01", "10"), ("1", "11")]), plain(other="1", one="0"), Endless("0",
                                                                                                                  "1")
        self.assertEqual(Endless(ring="1", head="0"), row)
        self.assertEqual((row.signs(many=3), row.behind(many=1)), ("011", row.behind(1)))
        self.assertEqual((row.under(head="1"), row.starts(head="0"), row.before(other=row)),
                         (row.under("1"), True, False))
        self.assertEqual((swap.of(row=row), swap.leads(head="01")), (swap.of(row), "10"))
        self.assertEqual(swap.then(other=flip), swap.then(flip))
        self.assertEqual(swap.power(many=2), swap.power(2))
        self.assertEqual(swap.seen(other=flip), swap.seen(flip))
        self.assertEqual(swap.within(head="1"), swap.within("1"))
        self.assertEqual(swap.parted(other=flip), swap.parted(flip))
        self.assertEqual(done(pairs=plains(swap=swap)), swap)
        self.assertEqual((keeps(swap=swap), order_fault(swap=flip)), ("order", order_fault(flip)))
        self.assertEqual(made(names={}, term=read_term(text="one")), made(("one",)))
        self.assertEqual(Life(swap=swap).steps(other=row, one=row), Life(swap).steps(row, row))
        self.assertEqual(Reader(swap=swap).put(signs="01"), "10")
        self.assertEqual(shows(rows=alike(other=swap, one=swap), other=swap, one=swap), True)

    def test_behind_the_star_by_name_alone(self):
        for call in (lambda: Endless("", "0").signs(3), lambda: made(("one",), {}), lambda: Book().keep("a", "one",
                                                                                                        True)):
            self.assertRaises(TypeError, call)


class SideBySide(unittest.TestCase):
    def swaps(self):
        book = Book()
        for name, text in NAMES.items():
            book.keep(name, text)
        names = {name: read_term(text) for name, text in NAMES.items()}
        for text in TEXTS:
            swap = made(read_term(text), names=names)
            self.assertEqual(book.asked(text), swap)
            yield text, swap, book

    def walked(self, web, row):
        """Where a row goes by what a web tells of itself."""
        arcs, knots = web.arcs(), web.knots()
        starts = {begin: number for number, (begin, end, gates) in arcs.items() if begin is not None}
        signs = row.signs(many=3000)
        (place,) = [(number, at, local + signs[len(head):]) for number, (_, _, gates) in arcs.items()
                    for at, gate in enumerate(gates) for local, head in gate if signs.startswith(head)]
        number, at, here = place[0], place[1] + 1, place[2]
        while at == len(arcs[number][2]):
            end = arcs[number][1]
            if end is not None:
                knot, way = end
                if knots[knot] == "join":
                    here, out = f"{way}{here}", 0
                else:
                    here, out = here[1:], int(here[0])
                number = starts[(knot, out)]
            at = 0
            if arcs[number][2]:
                break
        (told,) = [head + here[len(local):] for local, head in arcs[number][2][at] if here.startswith(local)]
        return told

    def test_each_row_comes_to_the_same_row(self):
        for text, swap, book in self.swaps():
            again = done(plains(swap))
            desk = Desk(book)
            webs = [Web(swap), Web(swap)]
            webs[1].last()
            for row in ROWS:
                goal = swap.of(row)
                self.assertEqual(again.of(row), goal)
                self.assertEqual(desk.say(f"of {row} {text}"), str(goal))
                reader = Reader(swap)
                for sign in row.signs(many=200):
                    reader.put(sign)
                self.assertTrue(goal.signs(many=4000).startswith(reader.told()))
                self.assertGreater(len(reader.told()), 100)
                for web in webs:
                    self.assertEqual(self.walked(web, row)[:2000], goal.signs(many=2000))
                    self.assertEqual(web.swap().of(row), goal)
                self.assertIn(Life(swap).steps(row, goal), (0, 1))

    def test_what_is_seen_through_a_third_one(self):
        for text, swap, book in self.swaps():
            seen = book.asked(f"({text}) ~ y")
            third = Swap(alike(swap, seen))
            self.assertEqual(swap.seen(third), seen)
            self.assertEqual(stamp(book.asked(f"({text}) ~ z'")), stamp(seen))
            for row in ROWS:
                self.assertEqual(seen.of(third.of(row)), third.of(swap.of(row)))

    def test_pages_and_desks(self):
        for text, swap, book in self.swaps():
            desk = Desk(read_page(page_of(book)))
            self.assertEqual(desk.say(f"rows {text}"), str(swap))
            self.assertEqual(made(read_term(desk.say(f"rows {text}"))) if len(str(swap)) <= 160 else swap, swap)
            self.assertEqual(desk.say(f"keeps {text}"), keeps(swap))
            self.assertEqual(desk.say(f"order {text}"), str(Life(swap).order() or "none"))


class HandedIn(unittest.TestCase):
    def test_neither_changed_nor_kept(self):
        rows = [["00", "0"], ["01", "10"], ["1", "11"]]
        heads, cut, pairs = ["11", "0", "10"], ["0", "1"], [("0", "1"), ("00", "1")]
        names = {"x": read_term(X), "y": read_term("x * x")}
        before = copy.deepcopy((rows, heads, cut, pairs, names))
        swap = Swap(rows)
        fault(heads), fewest(heads), common(heads, cut), done(pairs), made(("name", "y"), names=names)
        shows(swap, swap, rows)
        self.assertEqual((rows, heads, cut, pairs, names), before)
        rows[0][0] = "x"
        rows.clear()
        self.assertEqual(str(swap), X)

    def test_told_lists_are_new_ones(self):
        swap = Swap([("00", "0"), ("01", "10"), ("1", "11")])
        life, web, book = Life(swap), Web(swap), Book()
        book.keep("a", "one")
        book.keep("b", "a")
        term = read_term("a * b")
        for ask in (swap.rows, swap.fixed, life.rounds, life.drawn, life.left, web.knots, web.arcs, web.rules,
                    book.names, lambda: book.leans("b"), lambda: names_in(term), lambda: plains(swap),
                    lambda: alike(swap, swap), lambda: fewest(["0"]), lambda: common(["0", "1"], [""]),
                    Life(plain("0", "1")).rounds):
            wanted, told = ask(), ask()
            self.assertIsNot(told, ask())
            spoil(told)
            self.assertEqual(ask(), wanted)

    def test_objects_have_nothing_to_do_with_one_another(self):
        swap = Swap([("00", "0"), ("01", "10"), ("1", "11")])
        for make, change, ask in ((lambda: Reader(swap), lambda it: it.put("01"), lambda it: (it.read(), it.told(),
                                                                                              len(it))),
                                  (lambda: Web(swap), lambda it: it.last(), lambda it: (it.knots(), it.arcs(),
                                                                                        len(it))),
                                  (Book, lambda it: it.keep("a", "one"), lambda it: (it.names(), it.tried())),
                                  (Desk, lambda it: it.say("a = one"), lambda it: it.say("names"))):
            one, other = make(), make()
            before = ask(other)
            change(one)
            self.assertEqual(ask(other), before)
            self.assertEqual(ask(make()), before)
            self.assertNotEqual(ask(one), before)


def spoil(told):
    """Change a list or dict and the lists within it in all ways."""
    for part in list(told.values() if isinstance(told, dict) else told):
        if isinstance(part, (list, dict)):
            spoil(part)
        elif isinstance(part, tuple):
            spoil([inner for inner in part if isinstance(inner, (list, dict))])
    told.clear()


class InOrder(unittest.TestCase):
    def test_of_several_refusals_the_first_goes(self):
        great = ("0" * 33, "1" * 32)
        book = Book()
        book.keep("a", "one")
        for error, call in ((BadHead, lambda: Endless("x", "")), (BadRing, lambda: Endless("", "")),
                            (BadHead, lambda: Swap([("0", "0"), ("0", "x")])), (BadTable, lambda: Swap([("0", "0")])),
                            (BadHead, lambda: plain("0", "x")), (NotApart, lambda: plain("0", "0" * 60)),
                            (TooGreat, lambda: plain(*great)), (BadHead, lambda: done([("0", "x"), ("0", "0")])),
                            (NotApart, lambda: done([("0", "0"), ("0", "x")])), (NotApart, lambda: done([great,
                                                                                                         ("", "1")])),
                            (BadHead, lambda: apart("x", "0")), (NoName, lambda: made(read_term("[0 0] * q"))),
                            (BadText, lambda: book.asked("q * ")), (Taken, lambda: book.keep("a", "(")),
                            (BadText, lambda: read_page("a = one\nb = q")), (BadNumber, lambda: plain("0",
                                                                                                      "1").power(61)),
                            (BadText, lambda: read_endless("0")), (NoRule, lambda: Web(Swap()).do(("no", 0, 0)))):
            with self.assertRaises(error) as caught:
                call()
            self.assertIs(type(caught.exception), error)

    def test_refused_things_change_nothing(self):
        swap = plain("0", "1")
        reader, web, book = Reader(swap), Web(swap), Book()
        reader.put("0")
        book.keep("a", "one")
        for error, call in ((BadHead, lambda: reader.put("2")), (NoRule, lambda: web.do(("part", 9, 9))),
                            (NothingLeft, web.undo), (NothingLeft, book.redo), (SwapError, lambda: book.keep("b", "")),
                            (Lacking, lambda: book.drop("b"))):
            before = (reader.read(), reader.told(), web.arcs(), web.rules(), len(web), book.names(), book.twin())
            self.assertRaises(error, call)
            self.assertEqual((reader.read(), reader.told(), web.arcs(), web.rules(), len(web), book.names(),
                              book.twin()),
                             before)
        self.assertEqual((reader.take(), book.undo()), ("0", "keep"))

    def test_asked_again(self):
        lots = random.Random(1)
        for text in TEXTS[5:]:
            swap = made(read_term(text), names={name: read_term(told) for name, told in NAMES.items()})
            row = lots.choice(ROWS)
            for ask in (lambda: plains(swap), lambda: str(swap), lambda: stamp(swap), lambda: Life(swap).rounds(),
                        lambda: Life(swap).future(row), lambda: round_fault(swap), lambda: alike(swap, swap),
                        lambda: Life(swap).grows(), lambda: swap.parted(swap.back()),
                        lambda: term_text(read_term(text))):
                self.assertEqual(ask(), ask())


if __name__ == "__main__":
    unittest.main()

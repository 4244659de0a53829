"""Desks: books that are asked by lines."""

from headswap.book import Book
from headswap.endless import read_endless
from headswap.errors import (BadName, BadTable, BadText, Breaks, Full, InUse, NoName, NotApart, NothingLeft, Ring,
                             Taken, TooGreat)
from headswap.keeping import keeps
from headswap.life import Life
from headswap.terms import term_text

WHAT = "what"
NONE = "none"


class Desk:
    """A book, and answers to lines about it."""

    def __init__(self, book=None):
        # A book without names is a book: it counts as nothing, but it is not None.
        self.shelf = Book() if book is None else book

    def book(self):
        """Tell the very book."""
        return self.shelf

    def say(self, line):
        """Answer a line; what is refused by the name of its class."""
        try:
            return answered(self.shelf, line)
        except BadName:
            return "no BadName"
        except Taken:
            return "no Taken"
        except Full:
            return "no Full"
        except BadText:
            return "no BadText"
        except NoName:
            return "no NoName"
        except Ring:
            return "no Ring"
        except NotApart:
            return "no NotApart"
        except BadTable:
            return "no BadTable"
        except TooGreat:
            return "no TooGreat"
        except Breaks:
            return "no Breaks"
        except InUse:
            return "no InUse"
        except NothingLeft:
            return "no NothingLeft"


def names_told(book):
    """Tell the names of a book."""
    return " ".join(book.names()) if len(book) > 0 else NONE


def dropped(book, name):
    """Drop a name."""
    if " " in name:
        return WHAT
    book.drop(name)
    return "done"


def shown(book, name):
    """Tell the term of a name as it is written."""
    if " " in name:
        return WHAT
    return term_text(book.term(name))


def rows_told(book, text):
    """Tell the fewest rows of a term."""
    return str(book.asked(text))


def order_told(book, text):
    """Tell the order of a term."""
    order = Life(book.asked(text)).order()
    return NONE if order is None else str(order)


def keeping_told(book, text):
    """Tell what a term keeps."""
    return keeps(book.asked(text))


def row_led(book, rest):
    """Tell the row that a row goes to by a term."""
    origin, blank, text = rest.partition(" ")
    if blank == "":
        return WHAT
    row = read_endless(origin)
    return str(book.asked(text).of(row))


ANSWERS = {"drop": dropped, "show": shown, "rows": rows_told, "order": order_told, "keeps": keeping_told, "of": row_led}


def answered(book, line):
    """Answer a line that is not refused."""
    word, blank, rest = line.partition(" ")
    if blank == "":
        return bare_answered(book, word)
    for sign, anew in (("= ", False), (":= ", True)):
        if rest.startswith(sign):
            book.keep(word, rest[len(sign):], anew=anew)
            return "done"
    if word not in ANSWERS:
        return WHAT
    answer = ANSWERS[word]
    return answer(book, rest)


def bare_answered(book, word):
    """Answer a line without a blank."""
    if word == "undo":
        return book.undo()
    if word == "redo":
        return book.redo()
    return names_told(book) if word == "names" else WHAT

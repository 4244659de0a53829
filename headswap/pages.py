"""Pages: books as they are written."""

from headswap.book import Book, book_of
from headswap.errors import BadText, Held, Lacking, SwapError
from headswap.terms import term_text


def page_of(book):
    """Write a book: a row for each name, by how many others it leans on, then by names."""
    names = sorted(book.names(), key=lambda name: place_of(book, name))
    return "".join([row_text(book, name) + "\n" for name in names])


def place_of(book, name):
    """Tell by what the rows of a page stand in order."""
    return (len(book.leans(name)), name)


def row_text(book, name):
    """Write the row of a name."""
    return f"{name} = {term_text(book.term(name))}"


def read_page(text):
    """Read a book that is written as a page."""
    rows = text.split("\n")
    book = Book()
    ahead = (0, "")
    for at, row in enumerate(rows[:-1]):
        place = read_row(book, row, at)
        if place <= ahead:
            raise BadText(at)
        ahead = place
    # Behind the last line feed nothing stands.
    if rows[-1] != "":
        raise BadText(len(rows) - 1)
    return book_of({name: book.term(name) for name in book.names()})


def read_row(book, row, at):
    """Keep what a row tells in a book, and tell the row's place; refuse a row that is not so written, or refused."""
    name, sign, text = row.partition(" = ")
    try:
        book.keep(name, tight_text(text))
    except (SwapError, Lacking, Held):
        raise BadText(at) from None
    if row_text(book, name) != row:
        raise BadText(at)
    return place_of(book, name)


def tight_text(text):
    """Tell a term's text as it is written, without the blanks that reading does not need."""
    # A term may be written with more signs than the text had that was handed in for it, and than one may have. Other
    # blanks are needed: heads without a sign stand beside no blank but in what cannot be made.
    return text.replace(" * ", "*").replace(" ~ ", "~")

"""Books: terms that are kept by names, and the deeds that change them."""

from headswap.errors import BadName, Breaks, Full, InUse, NoName, NothingLeft, Ring, Taken
from headswap.making import leanings, made, made_names
from headswap.signs import is_name
from headswap.terms import names_in, read_term

MOST_NAMES = 24


class Book:
    """Terms by their names, deeds that can be taken back, and such that can be done again.

    A deed puts other terms in the place of those that are kept and changes none: so what was kept ahead of a deed is
    there for taking it back, and twins may have it, too.
    """

    def __init__(self):
        self.kept = {}
        self.deeds = []
        self.undone = []
        self.tries = 0
        self.busy = False

    def keep(self, name, text, *, anew=False):
        """Keep a term by a name; anew, also by one that is kept."""
        self.begin()
        try:
            self.change("keep", terms_with(self.kept, name, text, anew))
        finally:
            self.busy = False

    def drop(self, name):
        """Keep a name no more."""
        self.begin()
        try:
            self.change("drop", terms_without(self.kept, name))
        finally:
            self.busy = False

    def begin(self):
        """Begin a deed, which may be refused yet."""
        self.tries += 1
        self.busy = True

    def change(self, word, terms):
        """Put other terms in the place of those that are kept."""
        self.deeds.append((word, self.kept))
        self.undone = []
        self.kept = terms

    def undo(self):
        """Take the last deed that stands back and tell its word."""
        if not self.deeds:
            raise NothingLeft("no deed stands")
        word, terms = self.deeds.pop()
        self.undone.append((word, self.kept))
        self.kept = terms
        return word

    def redo(self):
        """Do the deed that was taken back last again and tell its word."""
        if not self.undone:
            raise NothingLeft("no deed was taken back")
        word, terms = self.undone.pop()
        self.deeds.append((word, self.kept))
        self.kept = terms
        return word

    def names(self):
        """Tell the names, in order."""
        return sorted(self.kept)

    def term(self, name):
        """Tell the term that a name stands for."""
        need_kept(self.kept, name)
        return self.kept[name]

    def swap(self, name):
        """Tell the exchange that a name stands for."""
        return made(self.term(name), names=self.kept)

    def leans(self, name):
        """Tell the names on which a name leans, straight or not, in order."""
        return sorted(leanings(self.term(name), self.kept))

    def asked(self, text):
        """Tell the exchange of a term as it is written, by the names that are kept."""
        return made(read_term(text), names=self.kept)

    def tried(self):
        """Tell how many deeds were tried, refused ones too."""
        return self.tries

    def at_rest(self):
        """Tell whether no deed is under way."""
        return not self.busy

    def twin(self):
        """Tell a book that has all that this one has and goes its own way."""
        other = book_of(self.kept)
        other.deeds = list(self.deeds)
        other.undone = list(self.undone)
        other.tries = self.tries
        return other

    def __eq__(self, other):
        return isinstance(other, Book) and self.kept == other.kept

    def __len__(self):
        return len(self.kept)


def book_of(terms):
    """Make the book that keeps terms that are good, with nothing to take back and nothing tried."""
    book = Book()
    book.kept = dict(terms)
    return book


def need_kept(terms, name):
    """Refuse a name that is not kept."""
    if name not in terms:
        raise NoName("the name is not kept")


def terms_with(terms, name, text, anew):
    """Tell terms by their names with one more, or with another one in its name's place."""
    need_place(terms, name, anew)
    term = read_term(text)
    need_no_ring(terms, name, term)
    made(term, names=terms)
    told = {**terms, name: term}
    # Nothing leans on a name that was not kept.
    if name in terms:
        need_unbroken(told)
    return told


def need_place(terms, name, anew):
    """Refuse a name by which no term can be kept."""
    if not is_name(name):
        raise BadName("a name is one to eight small letters, but not one")
    if name in terms and not anew:
        raise Taken("the name is kept already")
    if name not in terms and len(terms) >= MOST_NAMES:
        raise Full(f"a book keeps at most {MOST_NAMES} names")


def need_no_ring(terms, name, term):
    """Refuse a term with a name that is not kept, and then one that leans on the name by which it is to be kept."""
    if name in leanings(term, terms):
        raise Ring(ring_of(terms, name, term))


def ring_of(terms, name, term):
    """Tell a name and those from it on, each leaning straight on the next one, and the last one on the name."""
    around = ()
    met = set()
    left = [(name, ())]
    while left and not around:
        inner, trail = left.pop()
        if inner not in met:
            met.add(inner)
            trail = (*trail, inner)
            goals = names_in(term if inner == name else terms[inner])
            if name in goals:
                around = trail
            left.extend([(goal, trail) for goal in goals])
    return around


def need_unbroken(terms):
    """Refuse terms of which one cannot be made."""
    swaps = made_names({name: names_in(term) for name, term in terms.items()}, terms)
    broken = sorted([name for name, swap in swaps.items() if swap is None])
    if broken:
        raise Breaks(broken[0])


def terms_without(terms, name):
    """Tell terms by their names without one of them."""
    need_kept(terms, name)
    for other in sorted(terms):
        if name in names_in(terms[other]):
            raise InUse(other)
    return {other: terms[other] for other in terms if other != name}

"""Terms of the tongue, how they are written, and how they are read."""

from headswap.errors import BadText
from headswap.signs import things_of
from headswap.tables import head_text, table_text

DEEPEST = 12
MOST_TEXT = 160

TIGHTEST = 3
TIGHTNESS = {"then": 0, "seen": 1, "within": 2}
# How tight each part of a term must be, from left to right, to stand without brackets.
WANTED = {"then": (0, 1), "seen": (1, 2), "within": (2,), "back": (3,), "power": (3,)}


def own_parts(term):
    """Tell the terms that a term is made of straight away, from left to right."""
    if term[0] in ("then", "seen"):
        return [term[1], term[2]]
    if term[0] in ("back", "power"):
        return [term[1]]
    if term[0] == "within":
        return [term[2]]
    return []


def all_parts(term):
    """Tell all parts of a term, left ones first, each behind its own parts, and so the term itself last."""
    told = []
    left = [term]
    while left:
        part = left.pop()
        told.append(part)
        left.extend(own_parts(part))
    # Gone through backwards: the wholes first, and right ones ahead of left ones.
    return told[::-1]


def folded(term, make):
    """Tell what comes of a term, by a function of a part and of the list of what comes of its own parts."""
    # A term may be as deep as its text is long: so no call goes within another one.
    ready = []
    for part in all_parts(term):
        begin = len(ready) - len(own_parts(part))
        inner = ready[begin:]
        del ready[begin:]
        ready.append(make(part, inner))
    return ready[0]


def names_in(term):
    """Tell the names in a term, each once, by their first places."""
    told = []
    for part in all_parts(term):
        if part[0] == "name" and part[1] not in told:
            told.append(part[1])
    return told


def term_text(term):
    """Write a term."""
    return folded(term, written)


def written(term, inner):
    """Write a term by the texts of its own parts."""
    word = term[0]
    if word == "one":
        return "one"
    if word == "name":
        return term[1]
    if word == "plain":
        return f"[{head_text(term[1])} {head_text(term[2])}]"
    if word == "table":
        return table_text(term[1])
    texts = bracketed(term, inner)
    if word == "then":
        return " * ".join(texts)
    if word == "seen":
        return " ~ ".join(texts)
    if word == "within":
        return f"{head_text(term[1])}:{texts[0]}"
    if word == "power":
        return f"{texts[0]}^{term[2]}"
    return texts[0] + "'"


def bracketed(term, texts):
    """Put those texts of a term's own parts in brackets that are too loose to stand without."""
    told = []
    for part, text, wanted in zip(own_parts(term), texts, WANTED[term[0]]):
        loose = TIGHTNESS.get(part[0], TIGHTEST) < wanted
        told.append(f"({text})" if loose else text)
    return told


class Things:
    """The things of a text, gone through from left to right."""

    def __init__(self, text):
        self.line = things_of(text)
        self.reached = 0

    def kind(self):
        """Tell of which kind the next thing is."""
        return self.line[self.reached][0]

    def place(self):
        """Tell where the next thing begins."""
        return self.line[self.reached][2]

    def pull(self, kind):
        """Go beyond the next thing and tell its worth; refuse one of another kind."""
        if self.kind() != kind:
            raise BadText(self.place())
        worth = self.line[self.reached][1]
        self.reached += 1
        return worth


def read_term(text):
    """Read a term."""
    if len(text) > MOST_TEXT:
        raise BadText(MOST_TEXT)
    things = Things(text)
    term = read_then(things, 0)
    things.pull("end")
    return term


def read_then(things, deep):
    """Read a term of any tightness that stands so deep."""
    term = read_seen(things, deep)
    while things.kind() == "*":
        things.pull("*")
        term = ("then", term, read_seen(things, deep))
    return term


def read_seen(things, deep):
    """Read a term that is not looser than one seen through another one."""
    term = read_within(things, deep)
    while things.kind() == "~":
        things.pull("~")
        term = ("seen", term, read_within(things, deep))
    return term


def read_within(things, deep):
    """Read a term that is not looser than one within a head."""
    if things.kind() != "head":
        return read_tight(things, deep)
    place = things.place()
    head = things.pull("head")
    things.pull(":")
    need_depth(deep, place)
    return ("within", head, read_within(things, deep + 1))


def read_tight(things, deep):
    """Read a term that is not looser than one taken back or a power."""
    term = read_part(things, deep)
    while things.kind() in ("'", "power"):
        if things.kind() == "'":
            things.pull("'")
            term = ("back", term)
        else:
            term = ("power", term, things.pull("power"))
    return term


def read_part(things, deep):
    """Read a term that is a word or stands in brackets of some kind."""
    if things.kind() == "[":
        return read_plain(things)
    if things.kind() == "{":
        return read_table(things)
    if things.kind() == "(":
        need_depth(deep, things.place())
        things.pull("(")
        term = read_then(things, deep + 1)
        things.pull(")")
        return term
    word = things.pull("word")
    return ("one",) if word == "one" else ("name", word)


def need_depth(deep, place):
    """Refuse what would stand within too many brackets and heads."""
    if deep >= DEEPEST:
        raise BadText(place)


def read_plain(things):
    """Read two heads in brackets."""
    things.pull("[")
    one = things.pull("head")
    other = things.pull("head")
    things.pull("]")
    return ("plain", one, other)


def read_table(things):
    """Read the rows of a table, one at least."""
    things.pull("{")
    rows = []
    while not rows or things.kind() == "head":
        head = things.pull("head")
        things.pull(">")
        rows.append((head, things.pull("head")))
    things.pull("}")
    return ("table", tuple(rows))

"""What several tests need: heads, cuts and tables, all of a size, and what tables make of signs, found by trying."""

import itertools

from headswap.swaps import Swap

NO_HEADS = ("2", "01 ", " 01", "0 1", "-", "a", "0a1", "1\n", "\n", "0\n1", "O", "l", "()", "(0)", "0.", "~", "0" * 61,
            "1" * 61, "01" * 30 + "0", "0" * 60 + "x", "0" * 4000, "x" * 60)
OTHER_SIGNS = tuple(text for text in NO_HEADS if text.strip("01"))


def told_by(text):
    """The exchange of a table as it is written, without its brackets."""
    return Swap([tuple(row.replace("-", "").split(">")) for row in text.split()])


# Where parts are done first, a pass of these comes upon gates of several rows.
PARTED = [told_by(text) for text in (
    "00>10 01>111 10>1100 1100>01 1101>00 111>1101",
    "0>11100 10>11101 110000>0 110001>10 11001>1101 1101>1111 1110>11001 1111>11000",
    "0>11001 100>11000 101>1101 1100>1111 1101>1110 11100>100 11101>0 1111>101",
    "000>01100 0010>010 0011>000 010>01101 01100>0111 01101>1 0111>0010 1>0011",
    "0000>0011 0001>0010 0010>01 00110>11 00111>10 01>0000 10>00011 11>00010")]


def words(longest):
    """All heads of at most so many signs."""
    return ["".join(signs) for many in range(longest + 1) for signs in itertools.product("01", repeat=many)]


def long_words(many):
    """All heads of just so many signs: each stands for the rows under it."""
    return ["".join(signs) for signs in itertools.product("01", repeat=many)]


def cuts(deep):
    """All cuts with heads of at most so many signs, in order."""
    if deep == 0:
        return [[""]]
    parts = cuts(deep - 1)
    told = [[""]]
    for left in parts:
        for right in parts:
            told.append(["0" + head for head in left] + ["1" + head for head in right])
    return told


def cuts_of(many):
    """All cuts with just so many heads, in order."""
    return [cut for cut in cuts(many - 1) if len(cut) == many]


def tables_of(many):
    """All tables of just so many rows, by their heads."""
    return [list(zip(heads, order)) for heads in cuts_of(many) for others in cuts_of(many)
            for order in itertools.permutations(others)]


def tables(most):
    """All tables of at most so many rows."""
    return [rows for many in range(1, most + 1) for rows in tables_of(many)]


def image(rows, word):
    """What a table makes of a word that is below one of its heads."""
    told = [other + word[len(head):] for head, other in rows if word[:len(head)] == head]
    if len(told) != 1:
        raise AssertionError((rows, word))
    return told[0]


def not_apart(one, other):
    return one[:len(other)] == other or other[:len(one)] == one


def led_to(make, head, deep):
    """Where a head goes, sign by sign behind it, by what becomes of each word so deep under it, or None."""
    goals = set()
    for rest in long_words(deep - len(head)):
        told = make(head + rest)
        if not told.endswith(rest):
            return None
        goals.add(told[:len(told) - len(rest)])
    return goals.pop() if len(goals) == 1 else None


def fewest_table(make, deep):
    """The rows by the shortest heads that go somewhere as a whole, by what becomes of each word so deep."""
    told = []
    left = [""]
    while left:
        head = left.pop()
        goal = led_to(make, head, deep)
        if goal is None:
            left += [head + "1", head + "0"]
        else:
            told.append((head, goal))
    return told


def split(rows, at):
    """The same table with one row told by two."""
    head, other = rows[at]
    return rows[:at] + [(head + "0", other + "0"), (head + "1", other + "1")] + rows[at + 1:]


def comb(many, sign="1"):
    """The cut of so many heads, each but the last one a row of the sign and then the other one."""
    turn = {"0": "1", "1": "0"}[sign]
    return [sign * at + turn for at in range(many - 1)] + [sign * (many - 1)]


def wide_rows(many):
    """A table whose fewest rows are so many, from 64 to 128: words of six signs go to themselves turned about."""
    rows = []
    for at, word in enumerate(long_words(6)):
        if at < many - 64:
            rows += [(word + "0", word[::-1] + "1"), (word + "1", word[::-1] + "0")]
        else:
            rows.append((word, word[::-1]))
    return rows


def doubling(many):
    """An exchange of many + 1 rows, done twice it has twice as many, and done four times it leaves all."""
    cut = sorted(comb(many))
    inner = list(zip(cut, cut))
    # Each head but the last, odd one goes to a neighbour and back.
    for at in range(0, many - 1, 2):
        inner[at], inner[at + 1] = (cut[at], cut[at + 1]), (cut[at + 1], cut[at])
    return Swap([("0", "1")] + [("1" + head, "0" + other) for head, other in inner])


def drawn_cut(lots, many):
    """A cut of so many heads, in order, drawn by lot."""
    cut = [""]
    while len(cut) < many:
        head = cut.pop(lots.randrange(len(cut)))
        cut += [head + "0", head + "1"]
    return sorted(cut)


def drawn_swap(lots, many):
    """An exchange told by so many rows, drawn by lot."""
    others = drawn_cut(lots, many)
    lots.shuffle(others)
    return Swap(list(zip(drawn_cut(lots, many), others)))


def wheel(lots, *turns):
    """An exchange that leads the heads of a cut, drawn by lot, round in cycles of so many."""
    heads = drawn_cut(lots, sum(turns))
    lots.shuffle(heads)
    rows = []
    for turn in turns:
        ring = [heads.pop() for _ in range(turn)]
        rows += zip(ring, ring[1:] + ring[:1])
    return Swap(rows)


def counter(many):
    """The exchange of many + 1 rows that adds one, carried to the right: all rows come round after 2 ** many times."""
    return Swap([("1" * at + "0", "0" * at + "1") for at in range(many)] + [("1" * many, "0" * many)])


def is_cut(heads):
    """Whether heads, of any length, are a cut."""
    heads = sorted(heads)
    deepest = max([len(head) for head in heads], default=0)
    return (not any(after.startswith(head) for head, after in zip(heads, heads[1:]))
            and sum(2 ** (deepest - len(head)) for head in heads) == 2 ** deepest)

"""Endless rows that repeat."""

from headswap.errors import BadNumber, BadRing, BadText
from headswap.heads import need_head, only_signs

SHOWN = 12
MOST_SIGNS = 4000


class Endless:
    """An endless row that repeats: the signs of a head, then those of a ring, again and again."""

    def __init__(self, head, ring):
        need_head(head)
        need_head(ring)
        if ring == "":
            raise BadRing("a ring has one sign at least")
        self.plain_head, self.plain_ring = plain_form(head, ring)

    def head(self):
        """Tell the head of the plain form."""
        return self.plain_head

    def ring(self):
        """Tell the ring of the plain form."""
        return self.plain_ring

    def signs(self, *, many=SHOWN):
        """Tell the first so many signs."""
        need_number(many)
        return first_signs(self, many)

    def behind(self, many):
        """Tell the row without its first so many signs."""
        need_number(many)
        return without(self, many)

    def under(self, head):
        """Tell the row with a head's signs ahead of it."""
        need_head(head)
        return row_of(head + self.plain_head, self.plain_ring)

    def starts(self, head):
        """Tell whether the row is under a head."""
        need_head(head)
        return first_signs(self, len(head)) == head

    def before(self, other):
        """Tell whether the row is less than another one."""
        # Two rings that agree over both their lengths together agree for ever.
        rings = len(self.plain_ring) + len(other.plain_ring)
        enough = max(len(self.plain_head), len(other.plain_head)) + rings
        return first_signs(self, enough) < first_signs(other, enough)

    def __eq__(self, other):
        return (isinstance(other, Endless) and self.plain_head == other.plain_head
                and self.plain_ring == other.plain_ring)

    def __str__(self):
        return f"{self.plain_head}({self.plain_ring})"

    def __repr__(self):
        return f"Endless({self.plain_head}({self.plain_ring}))"


def need_number(many):
    """Refuse a number of signs that is below nought or too great."""
    if many < 0 or many > MOST_SIGNS:
        raise BadNumber(f"a number of signs is from 0 to {MOST_SIGNS}")


def first_signs(row, many):
    """Tell the first so many signs of a row, however many."""
    times = max(0, many - len(row.plain_head)) // len(row.plain_ring) + 1
    return (row.plain_head + row.plain_ring * times)[:many]


def sign_at(row, at):
    """Tell the sign of a row at a place, from 0 on."""
    inner = at - len(row.plain_head)
    return row.plain_head[at] if inner < 0 else row.plain_ring[inner % len(row.plain_ring)]


def without(row, many):
    """Tell a row without its first so many signs, however many."""
    turn = max(0, many - len(row.plain_head)) % len(row.plain_ring)
    return row_of(row.plain_head[many:], row.plain_ring[turn:] + row.plain_ring[:turn])


def plain_form(head, ring):
    """Tell the shortest ring, and then the shortest head, of the same row: the head, then the ring."""
    # A text stands within itself told twice first where its shortest period ends.
    ring = ring[:(ring + ring).find(ring, 1)]
    kept = len(head)
    at = len(ring)
    while kept > 0 and head[kept - 1] == ring[at - 1]:
        kept -= 1
        at = at - 1 if at > 1 else len(ring)
    return head[:kept], ring[at:] + ring[:at]


def row_of(head, ring):
    """Make the row of a head and a ring of any length, also such as Endless refuses for its length."""
    row = Endless("", "0")
    row.plain_head, row.plain_ring = plain_form(head, ring)
    return row


def read_endless(text):
    """Read a row that is written as its head with its ring in brackets."""
    head, bracket, rest = text.partition("(")
    ring = rest[:-1]
    if not rest.endswith(")") or ring == "" or not only_signs(head + ring):
        raise BadText(0)
    return row_of(head, ring)

"""Exchanges: each head of a cut goes to a head of another one, with all that stands behind it."""

from headswap.endless import first_signs, row_of
from headswap.errors import BadNumber, BadTable, NotApart, TooGreat
from headswap.heads import apart, common, fault, need_head
from headswap.tables import fewest_rows, joined, led, plain_rows, repeated, rows_within, table_text, turned

MOST_ROWS = 64
POWERS = 60


class Swap:
    """An exchange, kept by its fewest rows."""

    def __init__(self, rows=(("", ""),)):
        need_table(rows)
        self.table = kept_rows(rows)

    def rows(self):
        """Tell the fewest rows, by their heads."""
        return list(self.table)

    def of(self, row):
        """Tell the endless row that an endless row goes to."""
        deepest = max([len(head) for head, other in self.table])
        rest = row.behind(deepest)
        return row_of(led(self.table, first_signs(row, deepest)) + rest.head(), rest.ring())

    def leads(self, head):
        """Tell the head to which all that is under a head goes, or None where it goes apart."""
        need_head(head)
        return led(self.table, head)

    def then(self, other):
        """Tell this exchange and then another one."""
        return swap_of(joined(self.table, other.table))

    def back(self):
        """Tell the exchange that undoes this one."""
        return swap_of(turned(self.table))

    def power(self, many):
        """Tell this exchange done so many times, below nought the one taken back so often."""
        if many < -POWERS or many > POWERS:
            raise BadNumber(f"a power is from {-POWERS} to {POWERS}")
        return swap_of(repeated(self.table if many > 0 else turned(self.table), abs(many)))

    def seen(self, other):
        """Tell this exchange seen through another one: the other taken back, then this one, then the other."""
        return swap_of(joined(joined(turned(other.table), self.table), other.table))

    def within(self, head):
        """Tell the exchange that does behind a head what this one does, and leaves all else."""
        need_head(head)
        return swap_of(rows_within(head, self.table))

    def fixed(self):
        """Tell the fewest heads under which each row stays."""
        # A head under which each row stays is below a row that stays, and no two of these make one.
        return [head for head, other in self.table if head == other]

    def parted(self, other):
        """Tell an endless row that this exchange and another one lead to unlike rows, or None of the same ones."""
        for head in common([begin for begin, end in self.table], [begin for begin, end in other.table]):
            here = led(self.table, head)
            there = led(other.table, head)
            if here != there:
                return row_of(head, telling_ring(here, there))
        return None

    def __eq__(self, other):
        return isinstance(other, Swap) and self.table == other.table

    def __len__(self):
        return len(self.table)

    def __str__(self):
        return str(table_text(self.table))

    def __repr__(self):
        return f"Swap({len(self.table)} rows)"


def need_table(rows):
    """Refuse rows that do not tell an exchange."""
    for head, other in rows:
        need_head(head)
        need_head(other)
    if fault([head for head, other in rows]) is not None or fault([other for head, other in rows]) is not None:
        raise BadTable("the heads of a table are a cut, and so are its others")


def kept_rows(rows):
    """Tell the fewest rows of an exchange, and refuse it if they are too many."""
    told = fewest_rows(rows)
    if len(told) > MOST_ROWS:
        raise TooGreat(f"an exchange has at most {MOST_ROWS} fewest rows")
    return tuple(told)


def swap_of(rows):
    """Make the exchange of rows that are good, with heads of any length."""
    swap = Swap()
    swap.table = kept_rows(rows)
    return swap


def telling_ring(here, there):
    """Tell a ring that makes unlike rows of two heads that are unlike."""
    # Noughts behind both make them alike just where the one is the other one with noughts behind it.
    many = max(len(here), len(there))
    return "1" if here.ljust(many, "0") == there.ljust(many, "0") else "0"


def plain(one, other):
    """Tell the exchange that puts each of two heads that are apart in the other's place."""
    if not apart(one, other):
        raise NotApart("one head is below the other one")
    return swap_of(plain_rows(one, other))

"""Reading endless rows sign by sign."""

from headswap.errors import NothingLeft
from headswap.heads import need_signs
from headswap.swaps import swap_of
from headswap.tables import led


class Reader:
    """Is handed the signs of an endless row and tells those of the row that it goes to, as soon as they are sure."""

    def __init__(self, swap):
        self.table = swap.table
        self.heard = ""
        self.sure = ""
        self.puttings = []

    def put(self, signs):
        """Read more signs and tell those that are newly sure."""
        need_signs(signs)
        known = len(self.sure)
        self.puttings.append((signs, known))
        self.heard += signs
        self.sure = sure_head(self.table, self.heard)
        return self.sure[known:]

    def read(self):
        """Tell all that was read."""
        return self.heard

    def told(self):
        """Tell all that was told."""
        return self.sure

    def take(self):
        """Take the last putting back and tell its signs."""
        if not self.puttings:
            raise NothingLeft("nothing was put")
        signs, known = self.puttings.pop()
        self.heard = self.heard[:len(self.heard) - len(signs)]
        # What is sure only grows behind each putting: so what was sure ahead of it is a part of it.
        self.sure = self.sure[:known]
        return signs

    def twin(self):
        """Tell a reader alike, also in what can be taken back."""
        other = Reader(swap_of(self.table))
        other.heard = self.heard
        other.sure = self.sure
        other.puttings = list(self.puttings)
        return other

    def __len__(self):
        return len(self.heard)


def sure_head(rows, head):
    """Tell the longest head under which all rows lie that come of rows under a head."""
    goal = led(rows, head)
    if goal is None:
        return common_start([other for begin, other in rows if begin.startswith(head)])
    return goal


def common_start(heads):
    """Tell the longest head above two or more heads that are apart."""
    least = min(heads)
    most = max(heads)
    many = 0
    while least[many] == most[many]:
        many += 1
    return least[:many]

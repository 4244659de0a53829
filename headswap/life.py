"""What becomes of rows: which come round, which are drawn, and where all others go."""

from headswap.courses import Course
from headswap.endless import first_signs
from headswap.turns import round_heads


class Life:
    """What an exchange, done again and again, makes of rows."""

    def __init__(self, swap):
        self.forth = Course(swap)
        self.aback = Course(swap.back())

    def rounds(self):
        """Tell the turns, rising, each with its round heads."""
        heads = round_heads(self.forth)
        return [(turn, heads[turn]) for turn in sorted(heads)]

    def drawn(self):
        """Tell the orbits of drawn rows, by their least rows, and how deep each is drawn."""
        return orbits(self.forth, list(self.forth.drawing_rings.values()))

    def left(self):
        """Tell the orbits of left rows, by their least rows, and how deep each is drawn by the exchange taken back."""
        return orbits(self.forth, list(self.forth.leaving_rings.values()))

    def order(self):
        """Tell after how many times, the least number from 1 on, the exchange leaves all, or None."""
        if self.forth.drawing_rings:
            return None
        told = 1
        for turn in self.forth.loops().values():
            told = told // common_part(told, turn) * turn
        return told

    def grows(self):
        """Tell a head, a number of times and the signs by which the head then grows, or None."""
        for circle in self.forth.drawing_rings.values():
            arc, at, signs = circle.gate_at(0)
            head, more = self.forth.traced(arc, at, signs)
            return (head, circle.gates_round(), more)
        return None

    def future(self, row):
        """Tell after how many times a row comes round, or to which drawn row it is drawn, and that one's number."""
        return future_by(self.forth, row)

    def past(self, row):
        """Tell what becomes of a row by the exchange taken back."""
        return future_by(self.aback, row)

    def steps(self, one, other):
        """Tell how many times, below nought the exchange taken back, take a row to another one, or None."""
        mark, lead, turns, circle = self.forth.standing(one)
        goal, rest, same, ring = self.forth.standing(other)
        if mark != goal:
            return None
        return (lead - rest) % turns if circle is None else lead - rest


def orbits(course, circles):
    """Tell the orbits of the rows that come round by some rings, by their least rows, with how deep they are drawn."""
    told = [([course.row_at(circle, at) for at in range(circle.gates_round())], circle.deep()) for circle in circles]
    longest = max([len(row.head()) + 2 * len(row.ring()) for rows, deep in told for row in rows], default=0)
    # Rows that differ do so within their longer head and both their rings.
    begun = [(begun_least(rows, 2 * longest), deep) for rows, deep in told]
    return sorted(begun, key=lambda orbit: first_signs(orbit[0][0], 2 * longest))


def begun_least(rows, enough):
    """Tell an orbit begun with its least row, which is found by so many signs."""
    signs = [first_signs(row, enough) for row in rows]
    begin = signs.index(min(signs))
    return rows[begin:] + rows[:begin]


def future_by(course, row):
    """Tell what becomes of a row in the last form of an exchange's web."""
    mark, lead, turns, circle = course.standing(row)
    if circle is None:
        return ("round", turns)
    return ("drawn", turns, course.row_at(circle, -lead % turns))


def common_part(one, other):
    """Tell the greatest number of which two numbers are multiples."""
    while other:
        one, other = other, one % other
    return one

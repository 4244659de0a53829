"""Tables of rows (head, other), of heads of any length: what exchanges are told by and kept as."""

from headswap.heads import common


def fewest_rows(rows):
    """Tell the fewest rows, by their heads, of the exchange that rows tell."""
    told = []
    for head, other in sorted([(head, other) for head, other in rows]):
        # Heads are apart, and others are: so where this holds both end in 1.
        while told and told[-1] == (head[:-1] + "0", other[:-1] + "0"):
            told.pop()
            head = head[:-1]
            other = other[:-1]
        told.append((head, other))
    return told


def turned(rows):
    """Tell the rows of the exchange taken back."""
    return sorted([(other, head) for head, other in rows])


def joined(rows, second):
    """Tell the fewest rows of the exchange of some rows and then that of others, which stand by their heads."""
    first = turned(rows)
    told = []
    left = right = 0
    # The heads between both stand in order, and so do the rows that lead to them and on from them.
    for between in common([place for place, head in first], [place for place, other in second]):
        while not between.startswith(first[left][0]):
            left += 1
        while not between.startswith(second[right][0]):
            right += 1
        told.append((moved(between, first[left]), moved(between, second[right])))
    return fewest_rows(told)


def moved(head, row):
    """Tell where a head that is below the head of a row goes by it."""
    begin, end = row
    return end + head[len(begin):]


def led(rows, head):
    """Tell the head to which all that is under a head goes by the fewest rows, or None where it goes apart."""
    for row in rows:
        if head.startswith(row[0]):
            return moved(head, row)
    return None


def repeated(rows, many):
    """Tell the fewest rows of an exchange done so many times, from 0 on."""
    told = [("", "")]
    doubled = rows
    while many > 0:
        if many & 1:
            told = joined(told, doubled)
        many //= 2
        if many > 0:
            doubled = joined(doubled, doubled)
    return told


def beside(head):
    """Tell the fewest heads that make a cut together with a head."""
    return [head[:at] + ("1" if head[at] == "0" else "0") for at in range(len(head))]


def rows_within(head, rows):
    """Tell rows of the exchange that does behind a head what rows do, and leaves all else."""
    told = [(head + begin, head + end) for begin, end in rows]
    return told + [(aside, aside) for aside in beside(head)]


def plain_rows(one, other):
    """Tell rows of the exchange that puts each of two heads that are apart in the other's place."""
    places = {one: other, other: one}
    cut = common([one, *beside(one)], [other, *beside(other)])
    return [(head, places.get(head, head)) for head in cut]


def head_text(head):
    """Write a head."""
    return head if head else "-"


def table_text(rows):
    """Write rows as a table."""
    return "{" + " ".join([f"{head_text(head)}>{head_text(other)}" for head, other in rows]) + "}"

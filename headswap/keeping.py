"""What keeps the order of rows, and what keeps it round."""


def keeps(swap):
    """Tell `order`, `round` (but not the order) or `none`."""
    if order_fault(swap) is None:
        return "order"
    if round_fault(swap) is None:
        return "round"
    return "none"


def order_fault(swap):
    """Tell two heads of the fewest rows, in order, whose others are not, or None."""
    return falling(swap.rows())


def round_fault(swap):
    """Tell three heads of the fewest rows, in order, whose others stand the other way about, or None."""
    rows = swap.rows()
    others = [other for head, other in rows]
    begin = others.index(min(others))
    # Gone through from the least one on, others that keep the order round only rise.
    pair = falling(rows[begin:] + rows[:begin])
    if pair is None:
        return None
    return tuple(sorted([rows[begin][0], *pair]))


def falling(rows):
    """Tell the heads of two rows that follow one another whose others are not in order, or None."""
    for (head, other), (after, lesser) in zip(rows, rows[1:]):
        if lesser < other:
            return (head, after)
    return None

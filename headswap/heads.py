"""Heads, and the cuts that are made of them."""

from headswap.errors import BadHead

LONGEST = 60


def only_signs(text):
    """Tell whether a text, of any length, has no sign but 0 and 1."""
    return text.strip("01") == ""


def is_head(text):
    """Tell whether a text is a head that may be handed in."""
    return len(text) <= LONGEST and only_signs(text)


def need_head(text):
    """Refuse a text that is no head."""
    if not is_head(text):
        raise BadHead(f"a head is at most {LONGEST} signs, each 0 or 1")


def need_signs(text):
    """Refuse a text, of any length, that has another sign than 0 and 1."""
    if not only_signs(text):
        raise BadHead("a head has no signs but 0 and 1")


def apart(one, other):
    """Tell whether neither of two heads is below the other one."""
    need_head(one)
    need_head(other)
    return stand_apart(one, other)


def stand_apart(one, other):
    """Tell whether two heads, of any length, are apart."""
    return not one.startswith(other) and not other.startswith(one)


def fault(heads):
    """Tell why a list of heads is no cut, or None of a cut."""
    for head in heads:
        need_head(head)
    placed = sorted([(head, place) for place, head in enumerate(heads)])
    # Whatever stands in order between a head and one below it is below it, too:
    # so neighbours are enough to find heads that are not apart.
    for (upper, place), (lower, after) in zip(placed, placed[1:]):
        if lower.startswith(upper):
            return ("both", min(place, after), max(place, after))
    missing = left_out([head for head, place in placed])
    if missing is None:
        return None
    return ("none", missing)


def is_cut(heads):
    """Tell whether heads, of any length, are a cut."""
    placed = sorted(heads)
    neighbours_apart = [stand_apart(head, after) for head, after in zip(placed, placed[1:])]
    return all(neighbours_apart) and left_out(placed) is None


def left_out(heads):
    """Tell a head that is apart from all these, which are apart and in order, or None of a cut."""
    sought = ""
    for head in heads:
        if not head.startswith(sought):
            return sought
        turn = head.find("1", len(sought))
        if turn >= 0:
            return head[:turn] + "0"
        sought = following(head)
    return sought


def following(head):
    """Tell the greatest head whose rows come straight behind those under a head, or None behind the last."""
    stem = head.rstrip("1")
    if stem == "":
        return None
    return stem[:-1] + "1"


def fewest(heads):
    """Tell the fewest heads, in order, of heads that are apart."""
    told = []
    for head in sorted(heads):
        while told and head.endswith("1") and told[-1] == head[:-1] + "0":
            told.pop()
            head = head[:-1]
        told.append(head)
    return told


def common(one, other):
    """Tell the cut with the fewest heads, in order, each below a head of either cut."""
    told = []
    for head in sorted([*one, *other]):
        # A head with another one below it stands straight ahead of what is below it.
        if told and head.startswith(told[-1]):
            told.pop()
        told.append(head)
    return told

"""How terms are made to exchanges."""

from headswap.errors import NoName, TooGreat
from headswap.swaps import Swap, plain
from headswap.terms import folded, names_in


def made(term, *, names=()):
    """Tell the exchange of a term by the terms that names stand for."""
    return made_by(term, made_names(leanings(term, names), names))


def leanings(term, names):
    """Tell, by each name that a term leans on, straight or not, the names in the term that it stands for."""
    told = {}
    left = names_in(term)
    while left:
        name = left.pop()
        if name not in names:
            raise NoName(f"{name} stands for no term")
        if name not in told:
            told[name] = names_in(names[name])
            left.extend(told[name])
    return told


def made_names(leans, names):
    """Tell the exchanges of names by the names in the terms that they stand for, None of one that is too great."""
    swaps = {}
    # No name leans on itself: so each time round some name has all that it leans on made.
    while len(swaps) < len(leans):
        for name in leans:
            if name not in swaps and all([inner in swaps for inner in leans[name]]):
                swaps[name] = made_or_none(names[name], swaps)
    return swaps


def made_or_none(term, swaps):
    """Tell the exchange of a term that a name stands for, or None of one that is too great."""
    try:
        return made_by(term, swaps)
    except TooGreat:
        return None


def made_by(term, swaps):
    """Tell the exchange of a term by those that names stand for, None of what is too great."""
    return folded(term, lambda part, inner: made_part(part, inner, swaps))


def made_part(part, inner, swaps):
    """Tell the exchange of a term by those of its own parts."""
    word = part[0]
    if word == "one":
        return Swap()
    if word == "name":
        return kept_swap(part[1], swaps)
    if word == "plain":
        return plain(part[1], part[2])
    if word == "table":
        return Swap(part[1])
    if word == "then":
        return inner[0].then(inner[1])
    if word == "seen":
        return inner[0].seen(inner[1])
    if word == "within":
        return inner[0].within(part[1])
    if word == "power":
        return inner[0].power(part[2])
    return inner[0].back()


def kept_swap(name, swaps):
    """Tell the exchange that a name stands for, and refuse one that is too great."""
    if swaps[name] is None:
        raise TooGreat(f"{name} stands for an exchange that is too great")
    return swaps[name]

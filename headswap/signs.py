"""The things that texts of the tongue are made of: words, heads, powers and single signs."""

from headswap.errors import BadText
from headswap.heads import LONGEST
from headswap.swaps import POWERS

MOST_LETTERS = 8
LETTERS = "abcdefghijklmnopqrstuvwxyz"
FIGURES = "0123456789"
SINGLE = "[]{}>*~':()"


def is_name(text):
    """Tell whether a text is a name."""
    return 0 < len(text) <= MOST_LETTERS and text.strip(LETTERS) == "" and text != "one"


def things_of(text):
    """Tell the things of a text as (kind, worth, place), from left to right, behind them ("end", "", its length)."""
    told = []
    at = 0
    while at < len(text):
        kind, signs = thing_at(text, at)
        if kind != "blank":
            told.append((kind, worth_of(kind, signs), at))
        at += len(signs)
    told.append(("end", "", len(text)))
    return told


def thing_at(text, at):
    """Tell the kind and the signs of the thing that begins at a place; a single sign is a kind of its own."""
    sign = text[at]
    if sign == " ":
        return "blank", run_of(text, at, " ")
    if sign == "-":
        return "head", sign
    if sign == "^":
        return "power", sign + power_signs(text, at + 1)
    if sign in SINGLE:
        return sign, sign
    if sign in "01":
        return "head", short_run(text, at, "01", LONGEST)
    return "word", short_run(text, at, LETTERS, MOST_LETTERS)


def worth_of(kind, signs):
    """Tell what the signs of a thing stand for."""
    if kind == "power":
        return int(signs[1:])
    return "" if signs == "-" else signs


def run_of(text, at, signs):
    """Tell the part of a text from a place on that has only some signs, as far as it goes."""
    rest = text[at:]
    return rest[:len(rest) - len(rest.lstrip(signs))]


def short_run(text, at, signs, most):
    """Tell such a part, and refuse one that is too long or has no sign."""
    run = run_of(text, at, signs)
    if run == "" or len(run) > most:
        raise BadText(at)
    return run


def power_signs(text, at):
    """Tell the minus and the figures from a place on, and refuse a number that is wrong."""
    minus = "-" if text[at:].startswith("-") else ""
    figures = run_of(text, at + len(minus), FIGURES)
    needless = figures.startswith("0") and minus + figures != "0"
    if figures == "" or needless or int(figures) > POWERS:
        raise BadText(at)
    return minus + figures

"""What the program refuses: one class for each kind of refusal."""


class SwapError(ValueError):
    """Something that was handed in is not as it must be."""


class BadHead(SwapError):
    """A text is no head."""


class BadRing(SwapError):
    """A ring has no sign."""


class BadNumber(SwapError):
    """A number is too small or too great."""


class BadTable(SwapError):
    """The heads of a table, or its others, are no cut."""


class NotApart(SwapError):
    """Of two heads one is below the other one."""


class TooGreat(SwapError):
    """An exchange has too many fewest rows."""


class BadName(SwapError):
    """A text is no name."""


class Full(SwapError):
    """A book has no place for one more name."""


class NoRule(SwapError):
    """A rule cannot be done on a web."""


class BadText(SwapError):
    """A text cannot be read; `at` tells where."""

    def __init__(self, at=0):
        super().__init__(f"cannot be read, at {at}")
        self.at = at


class Ring(SwapError):
    """A name would lean on itself; `around` tells by which names."""

    def __init__(self, around=()):
        super().__init__(f"leans on itself, around {around}")
        self.around = around


class Breaks(SwapError):
    """Another name could not be made any more; `name` tells which."""

    def __init__(self, name=""):
        super().__init__(f"breaks {name}")
        self.name = name


class Lacking(LookupError):
    """Something that is asked for is not there."""


class NoName(Lacking):
    """A name is not kept."""


class NothingLeft(Lacking):
    """Nothing is left to be taken back or done again."""


class Held(RuntimeError):
    """Something that is there stands in the way."""


class Taken(Held):
    """A name is kept already."""


class InUse(Held):
    """Another name leans on this one; `name` tells which."""

    def __init__(self, name=""):
        super().__init__(f"in use by {name}")
        self.name = name

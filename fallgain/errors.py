"""The refusals of this package."""


class GainError(ValueError):
    """All refusals stand under this one."""


class NoHouse(GainError):
    """This is no house, whatever its gains."""


class Crossing(GainError):
    """To the set where, one and other bring more together than each alone."""

    def __init__(self, where, one, other):
        self.where = where
        self.one = one
        self.other = other


class NoSet(GainError):
    """This is no set of the things."""


class NoThing(GainError):
    """This is none of the things."""


class NoMany(GainError):
    """There cannot be so many things."""


class NoPiece(GainError):
    """At this place stands no piece."""

    def __init__(self, at):
        self.at = at


class Passes(GainError):
    """The row's price of the set where is above its worth."""

    def __init__(self, where):
        self.where = where


class NotFull(GainError):
    """The row's price of all things is not their worth."""


class NoFit(GainError):
    """The two have not as many things."""


class TooGreat(GainError):
    """A worth would be beyond what a house may have."""


class TooFew(GainError):
    """No thing would be left."""


class TooMany(GainError):
    """There would be more than ten things."""


class NoPrices(GainError):
    """These are no prices for the things."""


class NothingBack(GainError):
    """No deed can be taken back."""


class NoText(GainError):
    """No text is written so."""

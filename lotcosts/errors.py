"""The errors that the package raises on purpose.

Each keeps its arguments as attributes. No message is formatted from them,
because Python refuses to write out integers of several thousand digits.
"""


class CostError(ValueError):
    """The base class of all errors of the package."""


class NoRatio(CostError):
    """A number was divided by 0, or amounts have no proportion."""


class BadName(CostError):
    """Something is not a string of 1 to 12 letters from a to z."""

    def __init__(self, name):
        self.name = name


class NoPrice(CostError):
    """The price of a name is needed and not told."""

    def __init__(self, name):
        self.name = name


class Negative(CostError):
    """A price or a bound is less than 0."""

    def __init__(self, name):
        self.name = name


class BadEntry(CostError):
    """A place or an entry is not one, or two books differ at the place."""

    def __init__(self, day, number):
        self.day = day
        self.number = number


class NoEntry(CostError):
    """There is no entry at the place."""

    def __init__(self, day, number):
        self.day = day
        self.number = number


class BadRule(CostError):
    """The argument of a rule that this word names is not allowed."""

    def __init__(self, word):
        self.word = word


class Short(CostError):
    """There are fewer units than are asked for."""

    def __init__(self, missing):
        self.missing = missing


class NameTaken(CostError):
    """An earlier entry gave this name."""

    def __init__(self, name):
        self.name = name


class UnknownName(CostError):
    """No sale, or no lot, has this name."""

    def __init__(self, name):
        self.name = name


class NotEnough(CostError):
    """The sale at the place needs more units than there are."""

    def __init__(self, day, number, missing):
        self.day = day
        self.number = number
        self.missing = missing


class TooMany(CostError):
    """The entry at the place brings back more units than the sale still has."""

    def __init__(self, day, number, left):
        self.day = day
        self.number = number
        self.left = left


class Contradiction(CostError):
    """No prices keep the comparisons and the bounds of this pair of names."""

    def __init__(self, pair):
        self.pair = pair


class NotPlain(CostError):
    """The entry at the place brings units back where no returns may be."""

    def __init__(self, day, number):
        self.day = day
        self.number = number


class NotPossible(CostError):
    """No way takes these units."""


class Shut(CostError):
    """Days up to this one are closed already."""

    def __init__(self, day):
        self.day = day


class NotClosed(CostError):
    """No statement closed this day."""

    def __init__(self, day):
        self.day = day


class NotTold(CostError):
    """The shown forms do not tell the value that is asked for."""


class Unfit(CostError):
    """No prices give the shown forms these values."""

    def __init__(self, factors):
        self.factors = factors

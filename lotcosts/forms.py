"""Sums of unknown prices, each times a share."""

from lotcosts.errors import BadName, Negative, NoPrice
from lotcosts.ratios import Ratio, as_ratio

_LONGEST = 12


def is_name(name):
    """Tell whether this is a string of 1 to 12 letters from a to z."""
    if not isinstance(name, str) or len(name) > _LONGEST:
        return False
    return name.isascii() and name.isalpha() and name.islower()


def check_names(names):
    """Raise BadName for the least of these that is not a name."""
    wrong = [name for name in names if not is_name(name)]
    if wrong:
        raise BadName(min(wrong))


def check_prices(names, prices):
    """Raise NoPrice, then Negative, for the first of the names whose price is not told or below 0."""
    for name in names:
        if name not in prices:
            raise NoPrice(name)
    for name in names:
        if as_ratio(prices[name]).less(0):
            raise Negative(name)


class Form:
    """A sum of prices of names, each times a share that is not 0."""

    def __init__(self, shares=None):
        if shares is None:
            shares = {}
        check_names(shares)
        ratios = {name: as_ratio(shares[name]) for name in shares}
        self._shares = {name: ratios[name] for name in ratios if not ratios[name].same(0)}

    @classmethod
    def of(cls, name):
        """Return the form with the share 1 for this name alone."""
        return cls({name: 1})

    def __add__(self, other):
        shares = dict(self._shares)
        for name in other.names():
            shares[name] = self.share(name) + other.share(name)
        return Form(shares)

    def __sub__(self, other):
        return self + -other

    def __neg__(self):
        return self * -1

    def __mul__(self, other):
        return Form({name: self._shares[name] * other for name in self._shares})

    def __rmul__(self, other):
        return self * other

    def share(self, name):
        """Return the share of the name, a ratio; it is 0 for a name that the form does not have."""
        return self._shares.get(name, Ratio(0))

    def names(self):
        """Return the ascending list of the names whose share is not 0."""
        return sorted(self._shares)

    def over(self, number):
        """Return the form with all shares divided by the number; raise NoRatio if it is 0."""
        return self * Ratio(1).over(number)

    def at(self, prices):
        """Return the value at these prices, a ratio; raise NoPrice or Negative for the least such name."""
        names = self.names()
        check_prices(names, prices)
        return Ratio.sum_of([self._shares[name] * prices[name] for name in names])

    def at_most(self, other):
        """Tell whether no share is greater than the other form's share for the same name."""
        difference = self - other
        return all([difference.share(name).less(0) for name in difference.names()])

    def same(self, other):
        """Tell whether all shares are equal."""
        return not (self - other).names()


def parting(one, other):
    """Return prices of 0 and 1 at which the values differ, or None if the forms are the same."""
    differing = (one - other).names()
    if not differing:
        return None
    prices = {name: 0 for name in one.names() + other.names()}
    prices[differing[0]] = 1
    return prices

"""Bounds of prices, and the least and the greatest values of forms between them."""

from lotcosts.carriage import Carriage
from lotcosts.errors import Contradiction, Negative
from lotcosts.forms import Form
from lotcosts.ratios import Ratio, as_ratio, over_one_bottom


def _bounds(numbers):
    """Return the numbers as ratios; raise Negative for the least name whose number is less than 0."""
    if numbers is None:
        return {}
    bounds = {name: as_ratio(numbers[name]) for name in numbers}
    for name in sorted(bounds):
        if bounds[name].less(0):
            raise Negative(name)
    return bounds


class Limits:
    """Comparisons, and numbers between which the prices of some names lie."""

    def __init__(self, known, *, low=None, high=None):
        self.known = known
        self._turned = known.turned()
        self._low = _bounds(low)
        self._high = _bounds(high)
        for one in self._low:
            for other in known.closure([one]):
                if other in self._high and self._high[other].less(self._low[one]):
                    raise Contradiction((one, other))

    def least_price(self, name):
        """Return the number that the price of the name is at least, as it was passed."""
        return self._low.get(name, Ratio(0))

    def greatest_price(self, name):
        """Return the number that the price of the name is at most, as it was passed, or None."""
        return self._high.get(name)

    def turned(self):
        """Return the comparisons with each pair the other way round."""
        return self._turned

    def names(self):
        """Return the ascending list of the names in the comparisons and the bounds."""
        return sorted({name: True for name in self.known.names() + list(self._low) + list(self._high)})

    def steps(self):
        """Return the ascending list of 0 and all numbers in the bounds, each once."""
        tops, bottom = over_one_bottom([0] + list(self._low.values()) + list(self._high.values()))
        return [Ratio(top, bottom) for top in sorted(set(tops))]

    def costing_more(self, number):
        """Return the names that cost more than the number at all allowed prices, as the keys of a dict."""
        return self.known.closure([name for name in self._low if not self._low[name].at_most(number)])

    def costing_at_most(self, number):
        """Return the names that cost at most the number at all allowed prices, as the keys of a dict."""
        return self._turned.closure([name for name in self._high if self._high[name].at_most(number)])


def _all_names(form, limits):
    """Return the ascending list of the names of the form, of the comparisons and of the bounds."""
    return sorted({name: True for name in form.names() + limits.names()})


def _sum_of_shares(form, names):
    return Ratio.sum_of([form.share(name) for name in names])


def _dearest(form, limits, number, inner, outer):
    """Return, of the sets of names that may cost more than the number and all others not, the dearest.

    That is a closed set with the greatest sum of shares, the one that has all others within it.
    It is known to have the names of inner within it, and to lie within outer.
    """
    more = limits.costing_more(number)
    less = limits.costing_at_most(number)
    sure = {name: True for name in outer if name in more or name in inner}
    free = [name for name in outer if name not in sure and name not in less]
    turned = limits.turned()
    cheap = turned.closure(Carriage(Form({name: form.share(name) for name in free}), turned).stuck)
    return {name: True for name in outer if name in sure or name not in less and name not in cheap}


def _dearest_sets(form, limits, steps):
    """Return the list with the dearest set for each step, each as a dict with its names, ascending, as keys.

    The set of a greater step lies within the set of a less one. So a set that is found
    in the middle leaves fewer names open on both of its sides.
    """
    names = {name: True for name in _all_names(form, limits)}
    found = {}
    waiting = [(0, len(steps), {}, names)]
    while waiting:
        start, end, inner, outer = waiting.pop()
        if start < end:
            middle = (start + end) // 2
            found[middle] = _dearest(form, limits, steps[middle], inner, outer)
            waiting.append((start, middle, found[middle], outer))
            waiting.append((middle + 1, end, inner, found[middle]))
    return [found[at] for at in range(len(steps))]


def greatest(form, limits):
    """Return the greatest value and prices that give it, or None and names that raise it without end."""
    steps = limits.steps()
    sets = _dearest_sets(form, limits, steps)
    endless = list(sets[-1])
    if not _sum_of_shares(form, endless).at_most(0):
        return None, endless
    prices = {name: steps[0] for name in _all_names(form, limits)}
    for upper, names in zip(steps[1:], sets):
        prices.update({name: upper for name in names})
    return form.at(prices), prices


def least(form, limits):
    """Return the least value and prices that give it, or None and names that lower it without end."""
    value, told = greatest(-form, limits)
    if value is None:
        return None, told
    return -value, told


def levels(form, limits):
    """Return tuples (lower, upper, names) that show why no value is greater, or None if there is no greatest."""
    steps = limits.steps()
    sets = _dearest_sets(form, limits, steps)
    if not _sum_of_shares(form, list(sets[-1])).at_most(0):
        return None
    return [(lower, upper, list(names)) for lower, upper, names in zip(steps, steps[1:], sets)]

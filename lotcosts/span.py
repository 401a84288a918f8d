"""Spans: the sums of given forms, each times a weight."""

from math import gcd

from lotcosts.ratios import Ratio, over_one_bottom


def _without(name, row, other):
    """Return a row times a number, less another row times a number, in which the name has no share.

    A row is a tuple (shares, factors) of dicts of integers without zeros: the shares of names that
    forms have together if each, told by its number, is taken times its factor.
    """
    count = row[0][name]
    worth = other[0][name]
    mixed = []
    for part, away in zip(row, other):
        both = {**part, **away}
        sums = {key: part.get(key, 0) * worth - away.get(key, 0) * count for key in both}
        mixed.append({key: sums[key] for key in sums if sums[key] != 0})
    return _shortened(mixed[0], mixed[1])


def _shortened(shares, factors):
    """Return the row with these numbers without a common divisor, so that they do not grow without need."""
    common = 0
    for number in list(shares.values()) + list(factors.values()):
        common = gcd(common, number)
    if common > 1:
        return ({name: shares[name] // common for name in shares}, {key: factors[key] // common for key in factors})
    return shares, factors


class Span:
    """All sums of the forms of a list, each times a weight."""

    def __init__(self, forms):
        self._many = len(forms)
        # By the name that has a share in this row and in none of the others.
        self._rows = {}
        self._ties = []
        for number, form in enumerate(forms):
            self._take(self._reduced(form, number))

    def ties(self):
        """Return lists of factors, from which all others follow, with which the forms add up to nothing."""
        return [[Ratio(tie.get(number, 0)) for number in range(self._many)] for tie in self._ties]

    def rest(self, form):
        """Return the shares that are left of the form, times a number, when forms of the span are taken away.

        There are none if it is a form of the span, and none of the names by which the rows are kept.
        So a sum of rests is a form of the span only if it is the form without shares.
        """
        shares, _ = self._reduced(form, self._many)
        return shares

    def weights(self, form):
        """Return the list of the weights with which the forms add up to this one, or None if there are none."""
        shares, factors = self._reduced(form, self._many)
        if shares:
            return None
        return [Ratio(-factors.get(number, 0), factors[self._many]) for number in range(self._many)]

    def change(self, form):
        """Return a change of prices, without zeros, that changes this form and none of the span, or None."""
        rest = self.rest(form)
        if not rest:
            return None
        moved = min(rest)
        changes = {moved: Ratio(1)}
        for name in self._rows:
            shares, _ = self._rows[name]
            if moved in shares:
                changes[name] = Ratio(-shares[moved], shares[name])
        return changes

    def single_names(self):
        """Return the ascending list of the names whose price alone is a form of the span."""
        return [name for name in sorted(self._rows) if len(self._rows[name][0]) == 1]

    def _reduced(self, form, number):
        """Return a row for the form with this number, without the names of the rows."""
        names = form.names()
        tops, bottom = over_one_bottom([form.share(name) for name in names])
        row = (dict(zip(names, tops)), {number: bottom})
        for name in names:
            if name in self._rows:
                row = _without(name, row, self._rows[name])
        return row

    def _take(self, row):
        """Take a reduced row, or its factors if it has no shares."""
        shares, factors = row
        if not shares:
            self._ties.append(factors)
            return
        name = min(shares)
        for other in list(self._rows):
            if name in self._rows[other][0]:
                self._rows[other] = _without(name, self._rows[other], row)
        self._rows[name] = row

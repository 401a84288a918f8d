"""Exact rational numbers."""

from math import gcd, lcm

from lotcosts.errors import NoRatio


def as_ratio(number):
    """Return a ratio as it is, and an integer as a ratio."""
    if isinstance(number, Ratio):
        return number
    return Ratio(number)


def over_one_bottom(numbers):
    """Return the list of the tops that the numbers have over one common bottom, and this bottom."""
    ratios = [as_ratio(number) for number in numbers]
    bottom = 1
    for ratio in ratios:
        bottom = lcm(bottom, ratio.bottom)
    return [ratio.top * (bottom // ratio.bottom) for ratio in ratios], bottom


class Ratio:
    """The number top / bottom in lowest terms, with the bottom above 0."""

    def __init__(self, top, bottom=1):
        if bottom == 0:
            raise NoRatio()
        common = gcd(top, bottom)
        if bottom < 0:
            common = -common
        self.top = top // common
        self.bottom = bottom // common

    def __add__(self, other):
        number = as_ratio(other)
        return Ratio(self.top * number.bottom + number.top * self.bottom, self.bottom * number.bottom)

    def __radd__(self, other):
        return self + other

    def __sub__(self, other):
        number = as_ratio(other)
        return Ratio(self.top * number.bottom - number.top * self.bottom, self.bottom * number.bottom)

    def __rsub__(self, other):
        return as_ratio(other) - self

    def __mul__(self, other):
        number = as_ratio(other)
        return Ratio(self.top * number.top, self.bottom * number.bottom)

    def __rmul__(self, other):
        return self * other

    def __neg__(self):
        return Ratio(-self.top, self.bottom)

    def __abs__(self):
        return Ratio(abs(self.top), self.bottom)

    def over(self, other):
        """Return the quotient; raise NoRatio if the other number is 0."""
        number = as_ratio(other)
        return Ratio(self.top * number.bottom, self.bottom * number.top)

    def less(self, other):
        """Tell whether this number is less than the other one."""
        number = as_ratio(other)
        return self.top * number.bottom < number.top * self.bottom

    def at_most(self, other):
        """Tell whether this number is not greater than the other one."""
        number = as_ratio(other)
        return self.top * number.bottom <= number.top * self.bottom

    def same(self, other):
        """Tell whether both are the same number."""
        number = as_ratio(other)
        return self.top == number.top and self.bottom == number.bottom

    def floor(self):
        """Return the greatest integer that is not greater."""
        return self.top // self.bottom

    def nearest(self):
        """Return the nearest integer, of two equally near ones the greater."""
        return (2 * self.top + self.bottom) // (2 * self.bottom)

    @staticmethod
    def sum_of(items):
        """Return the sum of a list of ratios and integers as a ratio."""
        total = Ratio(0)
        for item in items:
            total = total + item
        return total

"""What several test files need: values written shortly, and comparisons worked out by hand."""

import unittest
from fractions import Fraction
from itertools import product

from lotcosts.books import Book
from lotcosts.forms import Form
from lotcosts.known import Known
from lotcosts.layers import Rule
from lotcosts.ratios import Ratio

MOST = 1000000
BIG = 10 ** 50 - 1
TAKES = ("oldest", "newest", "even")
PLACES = ("own", "top", "bottom")


def ratio(number):
    return Ratio(Fraction(number).numerator, Fraction(number).denominator)


def fraction(number):
    return Fraction(number.top, number.bottom) if isinstance(number, Ratio) else Fraction(number)


def form_of(shares):
    return Form({name: ratio(share) for name, share in shares.items()})


def table(form):
    """The shares of a form as fractions."""
    return {name: fraction(form.share(name)) for name in form.names()}


def added(*tables):
    """The sum of tables of shares, without zeros."""
    total = {}
    for shares in tables:
        for name, share in shares.items():
            total[name] = total.get(name, 0) + share
    return {name: share for name, share in total.items() if share}


def negated(shares):
    return {name: -share for name, share in shares.items()}


def value_at(form, prices):
    """The value of a form at prices, worked out with fractions."""
    return sum((share * fraction(prices[name]) for name, share in table(form).items()), Fraction(0))


def row_of(entries, first=0):
    """A book with one entry on each day, told as words such as "sell s 3", from the first day on."""
    book = Book()
    for day, text in enumerate(entries, start=first):
        kind, name, last = text.split()
        book[day, 0] = (kind, name, last if kind == "late" else int(last))
    return book


def entries_of(book):
    return {place: book[place] for place in book.places()}


def rules(periods=(0,)):
    return [Rule(take, place=place, period=period) for take in TAKES for place in PLACES for period in periods]


def told_by_hand(pairs, low, high):
    """Whether a chain leads from low to high: names are added until none is missing."""
    found, more = set(), {low}
    while more - found:
        found |= more
        more = {upper for lower, upper in pairs if lower in found}
    return high in found


def closed_by_hand(pairs, names):
    """All closed sets among these names, as sets."""
    above = {name: {other for other in names if told_by_hand(pairs, name, other)} for name in names}
    for row in product((0, 1), repeat=len(names)):
        chosen = {name for name, dear in zip(names, row) if dear}
        if all(above[name] <= chosen for name in chosen):
            yield chosen


def keeps(pairs, prices):
    """Whether prices, also of fractions, keep comparisons."""
    return all(fraction(prices[low]) <= fraction(prices[high]) for low, high in pairs)


def names_of(pairs):
    return Known(pairs).names()


class Case(unittest.TestCase):
    def assert_error(self, error, attributes, deed):
        """The error is raised, with attributes of just these values and kinds."""
        with self.assertRaises(error) as caught:
            deed()
        self.assertIs(type(caught.exception), error)
        told = vars(caught.exception)
        self.assertEqual(sorted(told), sorted(attributes))
        for name, expected in attributes.items():
            if isinstance(expected, Fraction):
                self.assertIs(type(told[name]), Ratio)
                self.assertEqual(fraction(told[name]), expected)
            else:
                self.assertIs(type(told[name]), type(expected))
                self.assertEqual(told[name], expected)

    def assert_form(self, form, expected):
        """The value is a form with just these shares."""
        self.assertIs(type(form), Form)
        self.assertEqual(table(form), expected)

    def assert_ratio(self, number, expected):
        self.assertIs(type(number), Ratio)
        self.assertEqual(fraction(number), expected)

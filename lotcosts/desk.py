"""Desks: a book, a rule and told prices that always have costs."""

from lotcosts.books import Book
from lotcosts.costing import Costing
from lotcosts.errors import Negative
from lotcosts.forms import check_names
from lotcosts.ratios import as_ratio


class DeskTrial:
    """A block at whose end a desk has the entries, the rule and the prices again that it had at its beginning."""

    def __init__(self, desk):
        self._desk = desk
        self._book = None
        self._rule = None
        self._costs = None
        self._prices = None

    def __enter__(self):
        desk = self._desk
        # A desk never changes these objects but takes new ones, so none of them is copied.
        self._book = desk._book
        self._rule = desk._rule
        self._costs = desk._costs
        self._prices = desk._prices
        return desk

    def __exit__(self, kind, value, trace):
        desk = self._desk
        desk._book = self._book
        desk._rule = self._rule
        desk._costs = self._costs
        desk._prices = self._prices


class Desk:
    """A book that has costs under a rule, and told prices; a deed that is refused changes nothing."""

    def __init__(self, rule):
        self._prices = {}
        self._keep(Book(), rule)

    @property
    def rule(self):
        """The rule under which the desk answers."""
        return self._rule

    def __setitem__(self, at, worth):
        day, number = at
        book = self._copy()
        book[day, number] = worth
        self._keep(book, self._rule)

    def __getitem__(self, at):
        day, number = at
        return self._book[day, number]

    def __contains__(self, x):
        return x in self._book

    def __len__(self):
        return len(self._book)

    def remove(self, day, number):
        """Take the entry out; raise NoEntry if there is none, or an error of a costing."""
        book = self._copy()
        book.remove(day, number)
        self._keep(book, self._rule)

    def all_of(self, book):
        """Set all entries of a book at once; may raise an error of a costing."""
        joined = self._copy()
        for place in book.places():
            joined[place] = book[place]
        self._keep(joined, self._rule)

    def follow(self, rule):
        """Take another rule; may raise an error of a costing."""
        self._keep(self._book, rule)

    def tell(self, name, amount):
        """Tell the price of a lot or the amount of a late cost; may raise BadName or Negative."""
        check_names([name])
        price = as_ratio(amount)
        if price.less(0):
            raise Negative(name)
        self._prices = {**self._prices, name: price}

    def cost(self, sale):
        """Return the cost of the sale, with all late costs; raise UnknownName if there is no such sale."""
        return self._costs.cost(sale)

    def booked(self, day, number):
        """Return the form that the entry books; raise NoEntry if there is none."""
        return self._costs.booked(day, number)

    def until(self, day):
        """Return the sum of the forms booked by the entries on this day and earlier ones."""
        return self._costs.until(day)

    def stock(self):
        """Return the cost of the units in stock, with all late costs."""
        return self._costs.stock()

    def amount(self, sale):
        """Return the cost of the sale at the told prices; may raise UnknownName or NoPrice."""
        return self.cost(sale).at(self._prices)

    def value(self):
        """Return the cost of the units in stock at the told prices; may raise NoPrice."""
        return self.stock().at(self._prices)

    def trial(self):
        """Return a context manager for one block, which takes back what the block changes."""
        return DeskTrial(self)

    def tried(self, deed):
        """Return what deed(desk) returns, called in a trial."""
        with self.trial():
            return deed(self)

    def _copy(self):
        return self._book.joined(Book())

    def _keep(self, book, rule):
        """Take the book and the rule, or raise what is wrong with them and change nothing."""
        self._costs = Costing(book, rule)
        self._book = book
        self._rule = rule

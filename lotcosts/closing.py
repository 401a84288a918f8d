"""Late entries: what they change, and statements that are corrected afterwards."""

from lotcosts.books import Book
from lotcosts.costing import Costing
from lotcosts.errors import NotClosed, Shut
from lotcosts.forms import Form


def changes(book, rule, day, number, entry):
    """Return what the entry changes: a dict with a form for each sale whose cost changes, and one for the stock."""
    changed = book.joined(Book())
    changed[day, number] = entry
    before = Costing(book, rule)
    after = Costing(changed, rule)
    sales = {name: Form() for name in book.sales() + changed.sales()}
    for name in changed.sales():
        sales[name] = after.cost(name)
    for name in book.sales():
        sales[name] = sales[name] - before.cost(name)
    return {name: sales[name] for name in sales if sales[name].names()}, after.stock() - before.stock()


class Ledger:
    """Entries whose days are closed one after another, each time with a statement."""

    def __init__(self, book, rule):
        self._book = book.joined(Book())
        self._rule = rule
        self._statements = {}
        self._corrections = {}
        self._last = None
        self._stated = Form()

    def enter(self, day, number, entry):
        """Set an entry, also on a closed day; raise BadEntry as a book does."""
        self._book[day, number] = entry

    def close(self, day):
        """Close all days up to this one and return the statement; may raise Shut or an error of a costing."""
        if self._last is not None and day <= self._last:
            raise Shut(self._last)
        costs = Costing(self._book, self._rule)
        booked = costs.until(day)
        self._corrections[day] = self._unstated(costs)
        self._statements[day] = booked - self._stated
        self._stated = booked
        self._last = day
        return self._statements[day]

    def closed(self):
        """Return the list of the days for which close was called, in order."""
        return list(self._statements)

    def statement(self, day):
        """Return the statement that closed this day; raise NotClosed if there is none."""
        if day not in self._statements:
            raise NotClosed(day)
        return self._statements[day]

    def correction(self, day):
        """Return what the statement of this day corrects of earlier ones; raise NotClosed if there is none."""
        if day not in self._corrections:
            raise NotClosed(day)
        return self._corrections[day]

    def pending(self):
        """Return what the next correction would be as the entries stand; may raise an error of a costing."""
        if self._last is None:
            return Form()
        return self._unstated(Costing(self._book, self._rule))

    def _unstated(self, costs):
        """Return what these costs book on closed days beyond all statements."""
        if self._last is None:
            return Form()
        return costs.until(self._last) - self._stated

"""Costings: what each sale of a book costs under a rule."""

from lotcosts.errors import NameTaken, NoEntry, NotEnough, Short, TooMany, UnknownName
from lotcosts.forms import Form
from lotcosts.ratios import Ratio


def _sums(rows):
    """Return a dict with the sum of the amounts of each name in a list of (name, amount)."""
    sums = {}
    for name, amount in rows:
        sums[name] = sums[name] + amount if name in sums else amount
    return sums


def sum_of_forms(forms):
    """Return the sum of a list of forms."""
    return Form(_sums([(name, form.share(name)) for form in forms for name in form.names()]))


class Costing:
    """The costs of a book under a rule; a book that is changed later has no effect."""

    def __init__(self, book, rule):
        self._rule = rule
        self._layers = []
        self._bought = {}
        self._late = {}
        self._unknowns = {}
        self._sold = {}
        self._forms = {}
        for place in rule.worked(book):
            self._forms[place] = self._work(place, book[place])

    def cost(self, sale):
        """Return the cost of the sale, with all late costs; raise UnknownName if there is no such sale."""
        return self.cost_of(self.parts(sale))

    def parts(self, sale):
        """Return the parts that the sale still has; raise UnknownName if there is no such sale."""
        if sale not in self._sold:
            raise UnknownName(sale)
        return list(self._sold[sale])

    def booked(self, day, number):
        """Return the form that the entry books; raise NoEntry if there is none."""
        if (day, number) not in self._forms:
            raise NoEntry(day, number)
        return self._forms[day, number]

    def until(self, day):
        """Return the sum of the forms booked by the entries on this day and earlier ones."""
        return sum_of_forms([form for place, form in self._forms.items() if place[0] <= day])

    def layers(self):
        """Return the layers after the last entry."""
        return list(self._layers)

    def stock(self):
        """Return the cost of the units in stock, with all late costs."""
        return self.cost_of(self._layers)

    def cost_of(self, parts):
        """Return the cost of the units in these parts, with the late costs so far."""
        units = _sums(parts)
        shares = {}
        for lot in units:
            shares[lot] = units[lot]
            for cost in self._late[lot]:
                shares[cost] = units[lot].over(self._bought[lot])
        return Form(shares)

    def paid(self):
        """Return everything that was paid: each lot by its units, and each late cost once."""
        costs = {cost: 1 for lot in self._late for cost in self._late[lot]}
        return Form({**self._bought, **costs})

    def _work(self, place, entry):
        """Work through one entry and return the form that it books."""
        kind, name, last = entry
        if kind == "buy":
            return self._buy(name, last)
        if kind == "sell":
            return self._sell(place, name, last)
        if kind == "back":
            return self._bring_back(place, name, last)
        return self._charge(name, last)

    def _buy(self, lot, units):
        self._name_unknown(lot)
        self._bought[lot] = units
        self._late[lot] = []
        self._layers = self._layers + [(lot, Ratio(units))]
        return Form()

    def _sell(self, place, sale, units):
        if sale in self._sold:
            raise NameTaken(sale)
        try:
            taken, left = self._rule.parted(self._layers, units)
        except Short as short:
            raise NotEnough(place[0], place[1], short.missing.top) from None
        self._sold[sale] = taken
        self._layers = left
        return self.cost_of(taken)

    def _bring_back(self, place, sale, units):
        if sale not in self._sold:
            raise UnknownName(sale)
        try:
            back, kept = self._rule.returned(self._sold[sale], units)
        except Short as short:
            raise TooMany(place[0], place[1], units - short.missing.top) from None
        self._sold[sale] = kept
        self._layers = self._rule.laid(self._layers, back, list(self._bought))
        return -self.cost_of(back)

    def _charge(self, cost, lot):
        """Add a late cost to its lot; it books the part that sold units bear."""
        self._name_unknown(cost)
        if lot not in self._bought:
            raise UnknownName(lot)
        self._late[lot].append(cost)
        held = Ratio.sum_of([amount for name, amount in self._layers if name == lot])
        sold = self._bought[lot] - held
        return Form({cost: sold.over(self._bought[lot])})

    def _name_unknown(self, name):
        """Note the name of a lot or a late cost; raise NameTaken if there is one already."""
        if name in self._unknowns:
            raise NameTaken(name)
        self._unknowns[name] = True

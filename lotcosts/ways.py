"""Ways: all choices of the units that the sales of a book take."""

from heapq import heappop, heappush

from lotcosts.errors import NameTaken, NotEnough, NotPlain, NotPossible, UnknownName
from lotcosts.forms import check_prices
from lotcosts.ratios import over_one_bottom


class Ways:
    """The ways of a book without returns; a book that is changed later has no effect.

    Units can be taken in some way exactly if, up to each sale, enough of them were bought. So no lot gives
    more units than are sold behind it, and units that are short can be exchanged one by one for better ones.
    """

    def __init__(self, book, *, until=None):
        self._units = {}
        self._sold_before = {}
        self._sales = []
        self._sale_names = {}
        self._bought = 0
        self._sold = 0
        for place in book.places():
            if until is None or place <= until:
                self._note(place, book[place])

    def lots(self):
        """Return the list of tuples (lot, units) bought, in order."""
        return list(self._units.items())

    def total(self):
        """Return the units of all sales."""
        return self._sold

    def possible(self, units):
        """Tell whether some way takes just these units; raise UnknownName for the least key that is no lot."""
        self._check_lots(units)
        counts = self._counts(units)
        if sum(counts) != self._sold or min(self._spares(counts), default=0) < 0:
            return False
        return all([0 <= count <= self._units[lot] for lot, count in zip(self._units, counts)])

    def way(self, units):
        """Return the tuples (sale, lot, units) of a way that takes these units, or None if there is none."""
        if not self.possible(units):
            return None
        lots = list(self._units)
        counts = self._counts(units)
        at = 0
        rows = []
        for sale, many, _, _ in self._sales:
            wanted = many
            while wanted > 0:
                taken = min(wanted, counts[at])
                if taken > 0:
                    rows.append((sale, lots[at], taken))
                wanted = wanted - taken
                counts[at] = counts[at] - taken
                if counts[at] == 0:
                    at = at + 1
        return rows

    def cheapest(self, prices):
        """Return the units of a way whose cost is the least; may raise NoPrice or Negative."""
        return self._best(self._by_price(prices))

    def dearest(self, prices):
        """Return the units of a way whose cost is the greatest; may raise NoPrice or Negative."""
        return self._best(self._by_price(prices)[::-1])

    def fewest(self, lot):
        """Return the least number of units of the lot that a way can take."""
        self._check_lots([lot])
        at = list(self._units).index(lot)
        needed = [self._units[lot] - spare for _, _, lots, spare in self._sales if lots > at]
        return max([0] + needed)

    def most(self, lot):
        """Return the greatest number of units of the lot that a way can take."""
        self._check_lots([lot])
        return min(self._units[lot], self._sold - self._sold_before[lot])

    def better(self, units, known):
        """Return an exchange (out, into, prices) that makes these units cheaper, or None if there is none."""
        if not self.possible(units):
            raise NotPossible()
        return self._exchange(units, known)

    def always_cheapest(self, known):
        """Return units that are cheapest at all prices that keep the comparisons, or None."""
        # At prices that ascend in this order the best units are the only ones, up to lots that always
        # cost the same. So if these are not always cheapest, none are.
        units = self._best(self._by_comparisons(known))
        if self._exchange(units, known) is None:
            return units
        return None

    def always_dearest(self, known):
        """Return units that are dearest at all prices that keep the comparisons, or None."""
        return self.always_cheapest(known.turned())

    def _note(self, place, entry):
        """Take note of one entry, or raise what is wrong with it."""
        day, number = place
        kind, name, last = entry
        if kind == "back":
            raise NotPlain(day, number)
        if kind == "buy":
            if name in self._units:
                raise NameTaken(name)
            self._units[name] = last
            self._sold_before[name] = self._sold
            self._bought = self._bought + last
        elif kind == "sell":
            if name in self._sale_names:
                raise NameTaken(name)
            if self._bought < self._sold + last:
                raise NotEnough(day, number, self._sold + last - self._bought)
            self._sale_names[name] = True
            self._sold = self._sold + last
            self._sales.append((name, last, len(self._units), self._bought - self._sold))

    def _check_lots(self, names):
        """Raise UnknownName for the least of these that is no lot."""
        unknown = [name for name in names if name not in self._units]
        if unknown:
            raise UnknownName(min(unknown))

    def _counts(self, units):
        """Return the list of the told units of each lot, in the order of the lots."""
        return [units.get(lot, 0) for lot in self._units]

    def _spares(self, counts):
        """Return for each sale how many of the counted units are more than are needed up to it."""
        missing = [0]
        for lot, count in zip(self._units, counts):
            missing.append(missing[-1] + self._units[lot] - count)
        return [spare - missing[lots] for _, _, lots, spare in self._sales]

    def _by_price(self, prices):
        """Return the lots, the cheapest first; raise NoPrice or Negative for the least such lot."""
        lots = sorted(self._units)
        check_prices(lots, prices)
        tops, _ = over_one_bottom([prices[lot] for lot in lots])
        return [lot for _, lot in sorted(list(zip(tops, lots)))]

    def _by_comparisons(self, known):
        """Return the lots in an order in which no lot is told to cost at most as much as an earlier, cheaper one.

        Lots that always cost the same stand side by side.
        """
        groups = {name: group[0] for group in known.equal_names() for name in group}
        rows = [(-len(known.closure([lot])), groups.get(lot, lot), lot) for lot in self._units]
        return [lot for _, _, lot in sorted(rows)]

    def _best(self, order):
        """Return the units of the way that takes as many as possible of the first lots in this order.

        From the last lot to the first one, as many of the worst units are dropped as cannot be sold any more.
        """
        ranks = {lot: at for at, lot in enumerate(order)}
        chosen = {}
        worst = []
        many = 0
        for lot in list(self._units)[::-1]:
            chosen[lot] = self._units[lot]
            many = many + chosen[lot]
            heappush(worst, (-ranks[lot], lot))
            while many > self._sold - self._sold_before[lot]:
                _, last = worst[0]
                drop = min(chosen[last], many - self._sold + self._sold_before[lot])
                many = many - drop
                chosen[last] = chosen[last] - drop
                if chosen[last] == 0:
                    heappop(worst)
        return {lot: chosen[lot] for lot in chosen if chosen[lot] > 0}

    def _exchange(self, units, known):
        """Return a possible exchange (out, into, prices) such that into may cost less than out, or None."""
        lots = list(self._units)
        counts = self._counts(units)
        spares = self._spares(counts)
        wanted = [lot for lot in lots if units.get(lot, 0) < self._units[lot]]
        order = {lot: at for at, lot in enumerate(lots)}
        for out in [lot for lot in lots if units.get(lot, 0) > 0]:
            above = known.closure([out])
            reach = self._reach(order[out], spares)
            for into in wanted:
                if order[into] < reach and into not in above:
                    return out, into, {name: 1 if name in above else 0 for name in lots + known.names()}
        return None

    def _reach(self, at, spares):
        """Return how many of the first lots can give a unit in exchange for one of the lot with this number."""
        for (_, _, lots, _), spare in zip(self._sales, spares):
            if lots > at and spare == 0:
                return lots
        return len(self._units)

"""Later entries: what they can show of the entries before them."""

from lotcosts.costing import Costing
from lotcosts.ratios import Ratio


def _units_in(layers):
    """Return the units in the layers, an integer also if those of each lot are not."""
    return Ratio.sum_of([amount for _, amount in layers]).top


def _in_order(layers, rule):
    """Return the tuples (lot, units) in the order in which a rule takes them that does not take evenly."""
    rows = [(lot, amount.top) for lot, amount in layers]
    if rule.take == "newest":
        return rows[::-1]
    return rows


def _shares(layers):
    """Return the tuples (lot, share), ascending by the names, with the share of each lot in the units."""
    amounts = dict(layers)
    total = _units_in(layers)
    return [(lot, amounts[lot].over(total)) for lot in sorted(amounts)]


def _same_shares(one, other):
    if [lot for lot, _ in one] != [lot for lot, _ in other]:
        return False
    return all([share.same(another) for (_, share), (_, another) in zip(one, other)])


def _same_units(one, other):
    """Return how many units are the same, one by one, until the first ones that are not."""
    count = 0
    for (lot, units), (name, many) in zip(one, other):
        if lot != name:
            return count
        count = count + min(units, many)
        if units != many:
            return count
    return count


def next_cost(book, rule, units):
    """Return the cost of a sale of these units as the first later entry, with all late costs; may raise Short."""
    costs = Costing(book, rule)
    taken, _ = rule(costs.layers(), units)
    return costs.cost_of(taken)


def pieces(book, rule):
    """Return what sales of every size would take: (lot, units) in their order, or (lot, share) if evenly."""
    layers = Costing(book, rule).layers()
    if rule.take == "even":
        return _shares(layers)
    return _in_order(layers, rule)


def later_parts(one, other, rule):
    """Return the least number of units whose sale parts the two books, or None if none does."""
    stock = Costing(one, rule).layers()
    another = Costing(other, rule).layers()
    if rule.take != "even":
        rows = _in_order(stock, rule)
        others = _in_order(another, rule)
        return None if rows == others else _same_units(rows, others) + 1
    if not _same_shares(_shares(stock), _shares(another)):
        return 1
    # Stocks of the same mixture are parted only by a sale that one of them has not enough units for.
    units = _units_in(stock)
    many = _units_in(another)
    return None if units == many else min(units, many) + 1

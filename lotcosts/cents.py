"""What entries are worth at told prices, in exact numbers and in whole cents."""

from lotcosts.costing import Costing
from lotcosts.errors import NoRatio
from lotcosts.forms import check_prices
from lotcosts.ratios import Ratio, over_one_bottom


def worth(book, rule, prices):
    """Return a tuple (place, value) for each entry worked through: what it and all earlier ones book together."""
    costs = Costing(book, rule)
    check_prices(sorted(book.lots() + book.late_costs()), prices)
    rows = []
    value = Ratio(0)
    for day, number in rule.worked(book):
        value = value + costs.booked(day, number).at(prices)
        rows.append(((day, number), value))
    return rows


def rounded(book, rule, prices):
    """Return a tuple (place, cents) for each entry worked through, whose cents add up to the nearest to the value."""
    rows = []
    before = 0
    for place, value in worth(book, rule, prices):
        after = value.nearest()
        rows.append((place, after - before))
        before = after
    return rows


def dealt(cents, amounts):
    """Return the cents that are dealt to each part by its amount; raise NoRatio if the amounts have no proportion."""
    tops, _ = over_one_bottom(amounts)
    total = sum(tops)
    if total == 0 or min(tops) < 0:
        raise NoRatio()
    parts = []
    reached = 0
    before = 0
    for top in tops:
        reached = reached + top
        after = Ratio(cents * reached, total).nearest()
        parts.append(after - before)
        before = after
    return parts

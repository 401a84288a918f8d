"""Rules: which units go out, where returned units are laid, and in which order entries are worked through."""

from lotcosts.books import is_whole
from lotcosts.errors import BadRule, Short
from lotcosts.ratios import Ratio, as_ratio


def _first_units(parts, units):
    """Split parts into those with the first units and the other ones; raise Short if there are fewer."""
    wanted = units
    whole = 0
    while whole < len(parts) and parts[whole][1].at_most(wanted):
        wanted = wanted - parts[whole][1]
        whole = whole + 1
    if wanted.same(0):
        return parts[:whole], parts[whole:]
    if whole == len(parts):
        raise Short(wanted)
    lot, amount = parts[whole]
    return parts[:whole] + [(lot, wanted)], [(lot, amount - wanted)] + parts[whole + 1:]


def _last_units(parts, units):
    """Split parts into those with the last units, the last part first, and the other ones in their order."""
    taken, others = _first_units(parts[::-1], units)
    return taken, others[::-1]


def _even_units(parts, units):
    """Split parts, by the same share of each, into those with the units and those with the other ones."""
    total = Ratio.sum_of([amount for _, amount in parts])
    if total.less(units):
        raise Short(units - total)
    if total.same(units):
        return list(parts), []
    share = units.over(total)
    rest = 1 - share
    return [(lot, amount * share) for lot, amount in parts], [(lot, amount * rest) for lot, amount in parts]


def _on_top(layers, lot, amount):
    """Return the layers with the amount as the top layer, which joins one of its lot there."""
    if layers and layers[-1][0] == lot:
        return layers[:-1] + [(lot, layers[-1][1] + amount)]
    return layers + [(lot, amount)]


def _at_bottom(layers, lot, amount):
    """Return the layers with the amount as the lowest layer, which joins one of its lot there."""
    return _on_top(layers[::-1], lot, amount)[::-1]


def _at_own(layers, lot, amount, order):
    """Return the layers with the amount in the lowest layer of its lot, or below the layers of later lots."""
    held = [name for name, _ in layers]
    if lot in held:
        at = held.index(lot)
        return layers[:at] + [(lot, layers[at][1] + amount)] + layers[at + 1:]
    later = [spot for spot, name in enumerate(held) if order[name] > order[lot]]
    below = later[0] if later else len(layers)
    return layers[:below] + [(lot, amount)] + layers[below:]


class Rule:
    """Which units go out, where returned ones are laid, and how long a period is, in days."""

    def __init__(self, take, *, place="own", period=0):
        if take not in ("oldest", "newest", "even"):
            raise BadRule("take")
        if place not in ("top", "bottom", "own"):
            raise BadRule("place")
        if not is_whole(period, 0):
            raise BadRule("period")
        self.take = take
        self.place = place
        self.period = period

    def __call__(self, layers, units):
        """Return the parts that are taken, in order, and the layers that are left; may raise Short."""
        return self.parted(layers, units)

    def parted(self, layers, units):
        """Return what a call of the rule returns: the parts that are taken, and the layers that are left."""
        wanted = as_ratio(units)
        if self.take == "oldest":
            return _first_units(layers, wanted)
        if self.take == "newest":
            return _last_units(layers, wanted)
        return _even_units(layers, wanted)

    def laid(self, layers, parts, lots):
        """Return the layers after the parts came back; lots are all lots in the order in which they were bought."""
        order = {lot: at for at, lot in enumerate(lots)}
        stock = list(layers)
        for lot, amount in parts:
            if self.take == "even" or self.place == "own":
                stock = _at_own(stock, lot, amount, order)
            elif self.place == "top":
                stock = _on_top(stock, lot, amount)
            else:
                stock = _at_bottom(stock, lot, amount)
        return stock

    def returned(self, parts, units):
        """Split the parts of a sale into those that come back, in this order, and those that it keeps."""
        wanted = as_ratio(units)
        if self.take == "even":
            back, kept = _even_units(parts, wanted)
            return back[::-1], kept
        return _last_units(parts, wanted)

    def worked(self, book):
        """Return the places of the book in the order in which its entries are worked through."""
        places = book.places()
        if self.period == 0:
            return places
        return sorted(places, key=lambda place: (place[0] // self.period, book[place][0] != "buy"))

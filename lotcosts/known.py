"""Comparisons of prices, and what holds at all prices that keep them."""

from lotcosts.carriage import Carriage


def _higher_names(pairs):
    """Return a dict with the list of the names that are compared directly as higher, for each lower name."""
    higher = {}
    for low, high in pairs:
        higher.setdefault(low, []).append(high)
    return higher


def _reached(higher, starts):
    """Return a dict whose keys are the starts and all names to which chains lead from them."""
    found = {name: True for name in starts}
    waiting = list(found)
    while waiting:
        name = waiting.pop()
        for high in higher.get(name, []):
            if high not in found:
                found[high] = True
                waiting.append(high)
    return found


class Known:
    """Comparisons, each of which says that one price is at most another one."""

    def __init__(self, pairs):
        self._pairs = list(pairs)
        self._higher = _higher_names(self._pairs)

    def told(self, low, high):
        """Tell whether the price of low is at most that of high at all prices that keep the comparisons."""
        return high in self.closure([low])

    def closure(self, names):
        """Return a dict whose keys are the least closed set with these names."""
        return _reached(self._higher, names)

    def extended(self, pairs):
        """Return these comparisons and further ones."""
        return Known(self._pairs + list(pairs))

    def turned(self):
        """Return the comparisons with each pair the other way round."""
        return Known([(high, low) for low, high in self._pairs])

    def names(self):
        """Return the ascending list of the names in the comparisons."""
        return sorted({name for pair in self._pairs for name in pair})

    def equal_names(self):
        """Return the groups of names that always cost the same, each of two or more names."""
        names = self.names()
        above = {name: self.closure([name]) for name in names}
        groups = []
        grouped = {}
        for name in names:
            if name not in grouped:
                group = [other for other in names if other in above[name] and name in above[other]]
                grouped.update({other: True for other in group})
                groups.append(group)
        return [group for group in groups if len(group) > 1]

    def needless(self):
        """Return the numbers of the comparisons that follow from the other ones."""
        return [at for at in range(len(self._pairs)) if self._follows(at)]

    def _follows(self, at):
        low, high = self._pairs[at]
        others = self._pairs[:at] + self._pairs[at + 1:]
        return high in _reached(_higher_names(others), [low])


def never_more(one, other, known):
    """Return None if one is never greater than other, or else prices of 0 and 1 at which it is."""
    stuck = Carriage(other - one, known).stuck
    if not stuck:
        return None
    dear = known.closure(stuck)
    names = one.names() + other.names() + known.names()
    return {name: 1 if name in dear else 0 for name in names}


def carried(one, other, known):
    """Return amounts (source, target, amount) that show why one is never greater, or None if it may be."""
    carriage = Carriage(other - one, known)
    if carriage.stuck:
        return None
    return carriage.amounts()

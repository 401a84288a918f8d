"""Comparisons of prices, and what holds at all prices that keep them."""

from math import lcm

from lotcosts.ratios import Ratio


def _higher_names(pairs):
    """Return a dict with the list of the names that are compared directly as higher, for each lower name."""
    higher = {}
    for low, high in pairs:
        higher.setdefault(low, []).append(high)
    return higher


def _reached(higher, starts):
    """Return a dict whose keys are the starts and all names to which chains lead from them."""
    found = {name: True for name in starts}
    waiting = list(found)
    while waiting:
        name = waiting.pop()
        for high in higher.get(name, []):
            if high not in found:
                found[high] = True
                waiting.append(high)
    return found


class Known:
    """Comparisons, each of which says that one price is at most another one."""

    def __init__(self, pairs):
        self._pairs = list(pairs)
        self._higher = _higher_names(self._pairs)

    def told(self, low, high):
        """Tell whether the price of low is at most that of high at all prices that keep the comparisons."""
        return high in self.closure([low])

    def closure(self, names):
        """Return a dict whose keys are the least closed set with these names."""
        return _reached(self._higher, names)

    def names(self):
        """Return the ascending list of the names in the comparisons."""
        return sorted({name for pair in self._pairs for name in pair})

    def equal_names(self):
        """Return the groups of names that always cost the same, each of two or more names."""
        names = self.names()
        above = {name: self.closure([name]) for name in names}
        groups = []
        grouped = {}
        for name in names:
            if name not in grouped:
                group = [other for other in names if other in above[name] and name in above[other]]
                grouped.update({other: True for other in group})
                groups.append(group)
        return [group for group in groups if len(group) > 1]

    def needless(self):
        """Return the numbers of the comparisons that follow from the other ones."""
        return [at for at in range(len(self._pairs)) if self._follows(at)]

    def _follows(self, at):
        low, high = self._pairs[at]
        others = self._pairs[:at] + self._pairs[at + 1:]
        return high in _reached(_higher_names(others), [low])


class Carriage:
    """Amounts carried from names with negative shares to those with positive ones that are told not to cost less.

    Shares are counted as integers over one common bottom, as only sums and differences are needed.
    `stuck` is None if everything could be carried away. Otherwise it is a list of sources: the names
    that are told to cost at least as much as one of these have room for less than what lies at these.
    """

    def __init__(self, form, known):
        shares = {name: form.share(name) for name in form.names()}
        self._bottom = 1
        for name in shares:
            self._bottom = lcm(self._bottom, shares[name].bottom)
        counts = {name: (shares[name] * self._bottom).top for name in shares}
        self._room = {name: counts[name] for name in counts if counts[name] > 0}
        self._loads = {target: {} for target in self._room}
        self._targets = {}
        self.stuck = None
        for source in counts:
            if counts[source] < 0 and self.stuck is None:
                above = known.closure([source])
                self._targets[source] = [target for target in self._room if target in above]
                self.stuck = self._carry(source, -counts[source])

    def amounts(self):
        """Return the list of tuples (source, target, amount)."""
        ways = [(source, target) for target in self._loads for source in self._loads[target]]
        return [(source, target, Ratio(self._loads[target][source], self._bottom)) for source, target in sorted(ways)]

    def _carry(self, source, count):
        """Carry the count away from the source; return None, or the sources that are stuck."""
        left = count
        while left > 0:
            came, target = self._search(source)
            if target is None:
                return [name for name in came if name in self._targets]
            left = left - self._push(came, target, left)
        return None

    def _search(self, source):
        """Return a dict that tells from where each name was reached, and a target with room or None.

        Loads of other sources may be moved on the way. The way found is a shortest one,
        because other ways could be as many as the amounts are large.
        """
        came = {source: None}
        level = [source]
        while level:
            following = []
            for name in level:
                for target in self._targets[name]:
                    if target not in came:
                        came[target] = name
                        if self._room[target] > 0:
                            return came, target
                        givers = [giver for giver in self._loads[target] if giver not in came]
                        came.update({giver: target for giver in givers})
                        following.extend(givers)
            level = following
        return came, None

    def _push(self, came, target, most):
        """Carry as much as the way to the target takes, at most so much; return how much."""
        way = [target]
        while came[way[-1]] is not None:
            way.append(came[way[-1]])
        losses = list(zip(way[2::2], way[1::2]))
        count = min([most, self._room[target]] + [self._loads[name][giver] for name, giver in losses])
        self._room[target] = self._room[target] - count
        for name, giver in zip(way[0::2], way[1::2]):
            self._loads[name][giver] = self._loads[name].get(giver, 0) + count
        for name, giver in losses:
            self._loads[name][giver] = self._loads[name][giver] - count
            if self._loads[name][giver] == 0:
                del self._loads[name][giver]
        return count


def never_more(one, other, known):
    """Return None if one is never greater than other, or else prices of 0 and 1 at which it is."""
    carriage = Carriage(other - one, known)
    if carriage.stuck is None:
        return None
    dear = known.closure(carriage.stuck)
    names = one.names() + other.names() + known.names()
    return {name: 1 if name in dear else 0 for name in names}


def carried(one, other, known):
    """Return amounts (source, target, amount) that show why one is never greater, or None if it may be."""
    carriage = Carriage(other - one, known)
    if carriage.stuck is not None:
        return None
    return carriage.amounts()

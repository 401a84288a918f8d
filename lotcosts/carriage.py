"""Amounts carried from names with negative shares to names with positive ones."""

from lotcosts.ratios import Ratio, over_one_bottom


class Carriage:
    """As much as can be carried from names with negative shares to positive ones that are told not to cost less.

    Shares are counted as integers over one common bottom, as only sums and differences are needed.
    `stuck` is the list of the sources from which no way leads to room any more; it is empty if everything
    was carried away. Of all closed sets of names, none has a less sum of shares than the least one with
    these sources, and all others with this sum have that one within them.
    """

    def __init__(self, form, known):
        names = form.names()
        tops, self._bottom = over_one_bottom([form.share(name) for name in names])
        counts = dict(zip(names, tops))
        self._room = {name: counts[name] for name in names if counts[name] > 0}
        self._loads = {target: {} for target in self._room}
        self._targets = {}
        self._closed_off = {}
        self.stuck = []
        for source in names:
            if counts[source] < 0:
                above = known.closure([source])
                self._targets[source] = [target for target in self._room if target in above]
                self._carry(source, -counts[source])

    def amounts(self):
        """Return the list of tuples (source, target, amount)."""
        ways = [(source, target) for target in self._loads for source in self._loads[target]]
        return [(source, target, Ratio(self._loads[target][source], self._bottom)) for source, target in sorted(ways)]

    def _carry(self, source, count):
        """Carry as much of the count away from the source as possible."""
        left = count
        while left > 0:
            came, target = self._search(source)
            if target is None:
                # What is carried later cannot touch these names, as no way to room leads through them.
                self._closed_off.update(came)
                self.stuck.extend([name for name in came if name in self._targets])
                return
            left = left - self._push(came, target, left)

    def _search(self, source):
        """Return a dict that tells from where each name was reached, and a target with room or None.

        Loads of other sources may be moved on the way. The way found is a shortest one,
        because other ways could be as many as the amounts are large.
        """
        came = {source: None}
        level = [source]
        while level:
            following = []
            for name in level:
                for target in self._targets[name]:
                    if target not in came and target not in self._closed_off:
                        came[target] = name
                        if self._room[target] > 0:
                            return came, target
                        givers = [giver for giver in self._loads[target] if giver not in came]
                        came.update({giver: target for giver in givers})
                        following.extend(givers)
            level = following
        return came, None

    def _push(self, came, target, most):
        """Carry as much as the way to the target takes, at most so much; return how much."""
        way = [target]
        while came[way[-1]] is not None:
            way.append(came[way[-1]])
        losses = list(zip(way[2::2], way[1::2]))
        count = min([most, self._room[target]] + [self._loads[name][giver] for name, giver in losses])
        self._room[target] = self._room[target] - count
        for name, giver in zip(way[0::2], way[1::2]):
            self._loads[name][giver] = self._loads[name].get(giver, 0) + count
        for name, giver in losses:
            self._loads[name][giver] = self._loads[name][giver] - count
            if self._loads[name][giver] == 0:
                del self._loads[name][giver]
        return count

"""Points 3, 4 and 39 to 45: all ways to choose the units that sales take."""

import random
import unittest
from fractions import Fraction
from itertools import product

from helping import BIG, MOST, Case, closed_by_hand, entries_of, fraction, names_of, ratio, row_of, told_by_hand
from lotcosts.books import Book
from lotcosts.costing import Costing
from lotcosts.errors import NameTaken, Negative, NoPrice, NotEnough, NotPlain, NotPossible, UnknownName
from lotcosts.known import Known
from lotcosts.layers import Rule
from lotcosts.ratios import Ratio
from lotcosts.ways import Ways

PLAIN = ["buy a 3", "sell s 2", "buy b 4", "sell t 2"]
# The books whose ways are all gone through by hand.
SMALL = [
    [],
    ["buy a 3", "buy b 2"],
    ["buy a 2", "sell s 2"],
    PLAIN,
    ["buy a 1", "buy b 2", "sell s 1", "buy c 2", "sell t 2", "sell u 1"],
    ["buy a 2", "buy b 2", "buy c 2", "sell s 3"],
    ["buy c 3", "sell s 1", "buy b 1", "sell t 2", "buy a 2", "sell u 2"],
    ["buy d 2", "sell s 1", "buy c 2", "sell t 1", "buy b 2", "sell u 1", "buy a 2", "sell v 1"],
    ["buy a 1", "sell s 1", "buy b 2", "buy c 1", "sell t 1", "buy d 1"],
]
KNOWN = [
    [],
    [("a", "b"), ("b", "c"), ("c", "d")],
    [("d", "c"), ("c", "b"), ("b", "a")],
    [("a", "b"), ("b", "a"), ("c", "b")],
    [("a", "c"), ("b", "c"), ("c", "d")],
    [("a", "x"), ("x", "b"), ("y", "a")],
    [("a", "x"), ("x", "a"), ("b", "x"), ("x", "b"), ("c", "y"), ("y", "c"), ("d", "y"), ("y", "d")],
]


def units_by_hand(entries):
    """The units that some way takes, as tables of all lots: each sale takes each part of what is left."""
    lots, left = [], {(): 0}
    for text in entries:
        kind, name, last = text.split()
        if kind == "buy":
            lots.append((name, int(last)))
            left = {(*row, int(last)): 0 for row in left}
        elif kind == "sell":
            left = {tuple(have - take for have, take in zip(row, taken)): 0 for row in left
                    for taken in product(*[range(have + 1) for have in row]) if sum(taken) == int(last)}
    return [{name: many - have for (name, many), have in zip(lots, row)} for row in sorted(left)]


def cost_of(units, prices):
    return sum((many * fraction(prices[lot]) for lot, many in units.items()), Fraction(0))


def without_zeros(units):
    return {lot: many for lot, many in units.items() if many}


class WaysCase(Case):
    def assert_units(self, units, among):
        """The units are some of these tables, without zeros."""
        self.assertIs(type(units), dict)
        for many in units.values():
            self.assertIs(type(many), int)
        self.assertIn(units, [without_zeros(row) for row in among])

    def assert_way(self, rows, units, entries):
        """The rows choose the units of each sale, of lots bought earlier and not taken before."""
        self.assertIs(type(rows), list)
        bought, sold, left = {}, {}, []
        for text in entries:
            kind, name, last = text.split()
            if kind == "buy":
                bought[name] = int(last)
            elif kind == "sell":
                left.append((name, int(last), dict(bought)))
        for row in rows:
            self.assertIs(type(row), tuple)
            sale, lot, many = row
            self.assertIs(type(many), int)
            self.assertGreaterEqual(many, 1)
            sold[lot] = sold.get(lot, 0) + many
        self.assertEqual(sold, without_zeros(units))
        self.assertTrue(all(sold[lot] <= bought[lot] for lot in sold))
        order = [sale for sale, _, _ in left]
        self.assertEqual([row[0] for row in rows], sorted([row[0] for row in rows], key=order.index))
        self.assertEqual(len({row[:2] for row in rows}), len(rows))
        for sale, many, before in left:
            own = [row for row in rows if row[0] == sale]
            self.assertEqual(sum(row[2] for row in own), many)
            self.assertTrue(all(lot in before for _, lot, _ in own))


class MakingTest(WaysCase):
    def test_returns_are_not_plain(self):
        self.assert_error(NotPlain, {"day": 2, "number": 0}, lambda: Ways(row_of(["buy a 3", "sell s 2", "back s 1"])))
        self.assert_error(NotPlain, {"day": 0, "number": 0}, lambda: Ways(row_of(["back s 1", "sell s 1"])))

    def test_names_that_are_taken(self):
        self.assert_error(NameTaken, {"name": "a"}, lambda: Ways(row_of(["buy a 3", "buy b 1", "buy a 1"])))
        self.assert_error(NameTaken, {"name": "s"}, lambda: Ways(row_of(["buy a 3", "sell s 1", "sell s 1"])))

    def test_a_sale_whose_name_is_taken_is_not_counted(self):
        self.assert_error(NameTaken, {"name": "s"}, lambda: Ways(row_of(["buy a 3", "sell s 1", "sell s 9"])))

    def test_not_enough(self):
        cases = [(["sell s 2", "buy a 3"], 0, 2), (["buy a 3", "sell s 2", "sell t 2"], 2, 1),
                 (["buy a 3", "sell s 1", "buy b 2", "sell t 9", "back s 1"], 3, 5), ([f"sell s {MOST}"], 0, MOST)]
        for entries, day, missing in cases:
            self.assert_error(NotEnough, {"day": day, "number": 0, "missing": missing}, lambda: Ways(row_of(entries)))

    def test_just_enough(self):
        ways = Ways(row_of(["buy a 3", "sell s 1", "buy b 2", "sell t 4"]))
        self.assertEqual(ways.way({"a": 3, "b": 2})[0], ("s", "a", 1))

    def test_the_first_wrong_entry_counts(self):
        entries = ["buy a 3", "buy a 1", "sell s 9", "back s 1"]
        self.assert_error(NameTaken, {"name": "a"}, lambda: Ways(row_of(entries)))
        self.assert_error(NotEnough, {"day": 0, "number": 0, "missing": 9}, lambda: Ways(row_of(entries[2:])))
        self.assert_error(NotPlain, {"day": 0, "number": 0}, lambda: Ways(row_of(entries[3:] + entries)))

    def test_late_costs_have_no_effect(self):
        entries = ["late c a", "buy c 3", "late c c", "sell s 2", "late c c", "late d z"]
        ways = Ways(row_of(entries))
        self.assertEqual([ways.lots(), ways.total(), ways.cheapest({"c": 1})], [[("c", 3)], 2, {"c": 2}])
        self.assertIs(ways.possible({"c": 2}), True)
        for deed in (ways.fewest, ways.most):
            self.assert_error(UnknownName, {"name": "d"}, lambda: deed("d"))

    def test_sales_may_be_named_like_lots(self):
        ways = Ways(row_of(["buy a 3", "sell a 2", "buy b 2", "sell b 1"]))
        self.assertEqual([ways.lots(), ways.total()], [[("a", 3), ("b", 2)], 3])
        self.assert_way(ways.way({"a": 2, "b": 1}), {"a": 2, "b": 1}, ["buy a 3", "sell a 2", "buy b 2", "sell b 1"])

    def test_entries_count_by_place_and_not_by_when_they_were_set(self):
        book = Book()
        book[4, 1] = ("sell", "t", 1)
        book[4, 0] = ("buy", "b", 1)
        book[2, 5] = ("sell", "s", 1)
        book[2, 4] = ("buy", "a", 1)
        ways = Ways(book)
        self.assertEqual(ways.lots(), [("a", 1), ("b", 1)])
        self.assertEqual(ways.way({"a": 1, "b": 1}), [("s", "a", 1), ("t", "b", 1)])

    def test_until(self):
        book = row_of(PLAIN + ["back s 1", "sell s 9"])
        book[2, 7] = ("buy", "c", 1)
        cases = {(0, 0): (["a"], 0), (0, 9): (["a"], 0), (1, 0): (["a"], 2), (2, 0): (["a", "b"], 2),
                 (2, 6): (["a", "b"], 2), (2, 7): (["a", "b", "c"], 2), (3, 0): (["a", "b", "c"], 4),
                 (3, MOST): (["a", "b", "c"], 4)}
        for until, (lots, total) in cases.items():
            ways = Ways(book, until=until)
            self.assertEqual([[lot for lot, _ in ways.lots()], ways.total()], [lots, total])
        self.assert_error(NotPlain, {"day": 4, "number": 0}, lambda: Ways(book, until=(4, 0)))
        self.assert_error(NotPlain, {"day": 4, "number": 0}, lambda: Ways(book, until=None))
        self.assertEqual(Ways(Book(), until=(0, 0)).lots(), [])
        self.assertEqual(Ways(book, until=(2, 0)).most("a"), 2)
        self.assert_error(UnknownName, {"name": "b"}, lambda: Ways(book, until=(1, 0)).fewest("b"))

    def test_until_is_passed_by_name(self):
        with self.assertRaises(TypeError):
            Ways(Book(), (1, 0))

    def test_the_book_stays_and_is_copied(self):
        book = row_of(PLAIN)
        before = entries_of(book)
        ways = Ways(book)
        self.assertEqual(entries_of(book), before)
        book.remove(0, 0)
        book[9, 0] = ("sell", "z", 1)
        self.assertEqual([ways.lots(), ways.total()], [[("a", 3), ("b", 4)], 4])
        self.assert_way(ways.way({"a": 2, "b": 2}), {"a": 2, "b": 2}, PLAIN)

    def test_a_book_without_sales(self):
        for entries in ([], ["buy a 3", "buy b 2"]):
            ways = Ways(row_of(entries))
            prices = {"a": 1, "b": 2}
            self.assertEqual([ways.total(), ways.way({}), ways.cheapest(prices), ways.dearest(prices)], [0, [], {}, {}])
            self.assertEqual([ways.possible({}), ways.better({}, Known([]))], [True, None])
            self.assertEqual([ways.always_cheapest(Known([])), ways.always_dearest(Known([]))], [{}, {}])
            for lot, _ in ways.lots():
                self.assertEqual([ways.fewest(lot), ways.most(lot)], [0, 0])


class UnitsTest(WaysCase):
    def test_by_hand(self):
        for entries in SMALL:
            ways = Ways(row_of(entries))
            among = units_by_hand(entries)
            self.assertTrue(among)
            for row in product(*[range(-1, many + 2) for _, many in ways.lots()]):
                units = {lot: many for (lot, _), many in zip(ways.lots(), row)}
                for told in (units, without_zeros(units)):
                    before = dict(told)
                    self.assertIs(ways.possible(told), units in among, (entries, units))
                    if units in among:
                        self.assert_way(ways.way(told), units, entries)
                    else:
                        self.assertIsNone(ways.way(told))
                    self.assertEqual(told, before)

    def test_numbers_below_0_and_too_great(self):
        ways = Ways(row_of(PLAIN))
        for units in ({"a": 5, "b": -1}, {"a": -1, "b": 5}, {"a": 4}, {"a": 10 ** 60, "b": 4 - 10 ** 60}):
            self.assertIs(ways.possible(units), False)
            self.assertIsNone(ways.way(units))
        self.assertIs(ways.possible({"a": 3, "b": 1}), True)

    def test_the_least_unknown_name(self):
        ways = Ways(row_of(PLAIN), until=(1, 0))
        deeds = [ways.possible, ways.way, lambda units: ways.better(units, Known([]))]
        for deed in deeds:
            self.assert_error(UnknownName, {"name": "b"}, lambda: deed({"z": 0, "a": 2, "b": 0, "s": 1}))
            self.assert_error(UnknownName, {"name": "s"}, lambda: deed({"s": 2, "a": 99}))
            self.assert_error(UnknownName, {"name": "aa"}, lambda: deed({"b": 1, "aa": -1}))

    def test_many_units(self):
        entries = [f"buy a {MOST}", f"buy b {MOST}", f"sell s {MOST - 1}", f"buy c {MOST}", f"sell t {MOST}"]
        ways = Ways(row_of(entries))
        units = {"a": MOST, "b": 1, "c": MOST - 2}
        self.assert_way(ways.way(units), units, entries)
        self.assertIs(ways.possible({"a": MOST - 2, "c": MOST, "b": 1}), True)
        self.assertIs(ways.possible({"a": MOST - 2, "c": MOST + 1}), False)
        self.assertEqual([ways.fewest("a"), ways.most("a")], [0, MOST])
        self.assertEqual([ways.fewest("c"), ways.most("c")], [0, MOST])
        self.assertEqual(ways.cheapest({"a": BIG, "b": BIG + 1, "c": BIG - 1}), {"a": MOST - 1, "c": MOST})

    def test_results_are_new(self):
        ways = Ways(row_of(PLAIN))
        ways.lots().clear()
        ways.way({"a": 3, "b": 1}).clear()
        ways.cheapest({"a": 1, "b": 2}).clear()
        ways.always_cheapest(Known([("a", "b")])).clear()
        ways.better({"a": 3, "b": 1}, Known([]))[2].clear()
        self.assertEqual(ways.lots(), [("a", 3), ("b", 4)])
        self.assertEqual([ways.cheapest({"a": 1, "b": 2}), ways.always_cheapest(Known([("a", "b")]))],
                         [{"a": 3, "b": 1}] * 2)
        self.assertEqual(ways.better({"a": 3, "b": 1}, Known([])), ("a", "b", {"a": 1, "b": 0}))


class PricesTest(WaysCase):
    def assert_best(self, entries, prices):
        ways = Ways(row_of(entries))
        among = units_by_hand(entries)
        costs = [cost_of(units, prices) for units in among]
        told = {name: price if isinstance(price, int) else ratio(price) for name, price in prices.items()}
        before = dict(told)
        for units, cost in [(ways.cheapest(told), min(costs)), (ways.dearest(told), max(costs))]:
            self.assert_units(units, among)
            self.assertEqual(cost_of(units, prices), cost)
        self.assertEqual(told, before)

    def test_by_hand(self):
        chance = random.Random(12)
        for entries in SMALL:
            for most in (1, 2, 9):
                for _ in range(12):
                    prices = {lot: Fraction(chance.randint(0, most), chance.randint(1, 3)) for lot in "abcdz"}
                    self.assert_best(entries, prices)

    def test_ties_of_prices(self):
        for entries in SMALL:
            for row in product((0, 1), repeat=4):
                self.assert_best(entries, dict(zip("abcd", row)))

    def test_long_prices(self):
        third = Fraction(BIG, 3)
        for low, high in [(third, third + Fraction(1, BIG)), (Fraction(1, BIG), Fraction(1, BIG - 1)), (BIG, BIG + 1)]:
            self.assert_best(PLAIN, {"a": low, "b": high})
            self.assert_best(PLAIN, {"a": high, "b": low})
            self.assertEqual(Ways(row_of(PLAIN)).cheapest({"a": ratio(low), "b": ratio(high)}), {"a": 3, "b": 1})
            self.assertEqual(Ways(row_of(PLAIN)).dearest({"a": ratio(low), "b": ratio(high)}), {"a": 2, "b": 2})

    def test_errors(self):
        ways = Ways(row_of(PLAIN + ["buy c 1"]))
        for deed in (ways.cheapest, ways.dearest):
            self.assert_error(NoPrice, {"name": "a"}, lambda: deed({"b": -1}))
            self.assert_error(NoPrice, {"name": "c"}, lambda: deed({"b": -1, "a": 1, "s": 3}))
            self.assert_error(Negative, {"name": "b"}, lambda: deed({"c": -1, "b": Ratio(-1, 2), "a": 0}))
            self.assert_error(Negative, {"name": "a"}, lambda: deed({"c": -1, "b": 2, "a": Ratio(-1, BIG)}))
            deed({"a": 0, "b": 0, "c": 0, "z": -1})

    def test_lots_behind_until_need_no_price(self):
        self.assertEqual(Ways(row_of(PLAIN), until=(1, 0)).cheapest({"a": 7}), {"a": 2})

    def test_many_lots(self):
        entries, chance = [], random.Random(13)
        names = [first + second for first, second in product("abcdefghijklmnopqrst", repeat=2)]
        for name in names:
            entries += [f"buy {name} 7", f"sell {name} {chance.randint(1, 7)}"]
        ways = Ways(row_of(entries))
        prices = {name: chance.randint(0, 50) for name in names}
        for units, sign in [(ways.cheapest(prices), 1), (ways.dearest(prices), -1)]:
            self.assert_way(ways.way(units), units, entries)
            # Just these units are cheapest at all prices that lie in the order of the told ones.
            order = sorted(names, key=lambda name: sign * prices[name])
            pairs = list(zip(order, order[1:]))
            pairs += [(high, low) for low, high in pairs if prices[low] == prices[high]]
            self.assertTrue(ways.better(units, Known(pairs)) is None, pairs)


class FewestTest(WaysCase):
    def test_by_hand(self):
        for entries in SMALL:
            ways = Ways(row_of(entries))
            among = units_by_hand(entries)
            for lot, _ in ways.lots():
                found = sorted({units[lot] for units in among})
                self.assertEqual([ways.fewest(lot), ways.most(lot)], [found[0], found[-1]])
                self.assertEqual(found, list(range(found[0], found[-1] + 1)))

    def test_lots_that_cannot_be_sold(self):
        ways = Ways(row_of(["buy a 2", "sell s 2", "buy b 9"]))
        self.assertEqual([ways.fewest("a"), ways.most("a"), ways.fewest("b"), ways.most("b")], [2, 2, 0, 0])

    def test_unknown_names(self):
        ways = Ways(row_of(PLAIN + ["late c a"]), until=(2, 0))
        for name in ("s", "t", "c", "z"):
            for deed in (ways.fewest, ways.most):
                self.assert_error(UnknownName, {"name": name}, lambda: deed(name))


class BetterTest(WaysCase):
    def tables(self, pairs, lots):
        """All prices of 0 and 1 that keep the comparisons; by point 32 they decide what holds for all prices."""
        names = sorted({*names_of(pairs), *lots})
        return [{name: int(name in dear) for name in names} for dear in closed_by_hand(pairs, names)]

    def test_by_hand(self):
        for entries, pairs in product(SMALL, KNOWN):
            ways, known = Ways(row_of(entries)), Known(pairs)
            among = units_by_hand(entries)
            lots = [lot for lot, _ in ways.lots()]
            tables = self.tables(pairs, lots)
            least = [min(cost_of(units, prices) for units in among) for prices in tables]
            for units in among:
                cheapest = [cost_of(units, prices) for prices in tables] == least
                told = without_zeros(units)
                self.assert_better(ways.better(told, known), cheapest, units, among, pairs, lots)
                self.assertEqual(told, without_zeros(units))
                exchanges = [(out, into) for out, into in product(lots, repeat=2) if out != into
                             and self.exchanged(units, out, into) in among]
                self.assertIs(cheapest, all(known.told(out, into) for out, into in exchanges))

    def exchanged(self, units, out, into):
        return {**units, out: units[out] - 1, into: units[into] + 1}

    def assert_better(self, told, cheapest, units, among, pairs, lots):
        if cheapest:
            self.assertIsNone(told)
            return
        self.assertIs(type(told), tuple)
        out, into, prices = told
        self.assertIn(self.exchanged(units, out, into), among)
        self.assertIn(prices, self.tables(pairs, lots))
        self.assertEqual([type(price) for price in prices.values()], [int] * len(prices))
        self.assertEqual([prices[out], prices[into]], [1, 0])

    def test_units_that_are_not_possible(self):
        ways = Ways(row_of(PLAIN))
        for units in ({}, {"a": 4}, {"a": 1, "b": 3}, {"a": 5, "b": -1}, {"a": 3}):
            self.assert_error(NotPossible, {}, lambda: ways.better(units, Known([("a", "b")])))
        self.assert_error(UnknownName, {"name": "c"}, lambda: ways.better({"c": 1, "a": 9}, Known([])))

    def test_always_by_hand(self):
        for entries, pairs in product(SMALL, KNOWN):
            ways, known = Ways(row_of(entries)), Known(pairs)
            among = units_by_hand(entries)
            tables = self.tables(pairs, [lot for lot, _ in ways.lots()])
            costs = [[cost_of(units, prices) for prices in tables] for units in among]
            for told, best in [(ways.always_cheapest(known), min), (ways.always_dearest(known), max)]:
                bounds = [best(column) for column in zip(*costs)]
                fitting = [units for units, row in zip(among, costs) if row == bounds]
                if fitting:
                    self.assert_units(told, fitting)
                else:
                    self.assertIsNone(told)

    def test_always_with_random_comparisons(self):
        chance = random.Random(14)
        seen = {True: 0, False: 0}
        for _ in range(200):
            entries = chance.choice(SMALL[4:])
            pairs = [tuple(chance.sample("abcdxy", 2)) for _ in range(chance.randint(2, 8))]
            ways, known = Ways(row_of(entries)), Known(pairs)
            among = units_by_hand(entries)
            tables = self.tables(pairs, [lot for lot, _ in ways.lots()])
            costs = [[cost_of(units, prices) for prices in tables] for units in among]
            for told, best in [(ways.always_cheapest(known), min), (ways.always_dearest(known), max)]:
                bounds = [best(column) for column in zip(*costs)]
                fitting = [units for units, row in zip(among, costs) if row == bounds]
                seen[bool(fitting)] += 1
                if fitting:
                    self.assert_units(told, fitting)
                else:
                    self.assertIsNone(told)
        self.assertGreater(min(seen.values()), 40)

    def test_rising_lots_and_rules(self):
        for entries in SMALL + [["buy a 9", "sell s 4", "buy b 1", "sell t 3", "buy c 5", "sell u 4", "sell v 2"]]:
            book = row_of(entries)
            ways = Ways(book)
            lots = [lot for lot, _ in ways.lots()]
            known = Known(list(zip(lots, lots[1:])))
            taken = {}
            for take in ("oldest", "newest"):
                costs = Costing(book, Rule(take))
                taken[take] = {lot: sum(costs.cost(sale).share(lot).top for sale in book.sales()) for lot in lots}
            self.assertIsNone(ways.better(taken["oldest"], known))
            self.assertIsNone(ways.better(taken["newest"], Known([pair[::-1] for pair in zip(lots, lots[1:])])))
            self.assertEqual(ways.always_cheapest(known), without_zeros(taken["oldest"]))
            self.assertEqual(ways.always_dearest(known), without_zeros(taken["newest"]))

    def test_lots_that_always_cost_the_same(self):
        entries = ["buy a 1", "buy b 1", "buy c 1", "buy d 1", "sell s 2"]
        pairs = [("a", "c"), ("c", "a"), ("b", "d"), ("d", "b")]
        ways = Ways(row_of(entries))
        self.assertEqual([ways.always_cheapest(Known(pairs)), ways.always_dearest(Known(pairs))], [None, None])
        self.assertEqual(ways.always_cheapest(Known(pairs + [("a", "b")])), {"a": 1, "c": 1})
        self.assertEqual(ways.always_dearest(Known(pairs + [("a", "b")])), {"b": 1, "d": 1})

    def test_told_is_what_counts_also_through_names_that_are_no_lots(self):
        ways = Ways(row_of(["buy a 1", "buy b 1", "sell s 1"]))
        known = Known([("b", "x"), ("x", "y"), ("y", "a")])
        self.assertTrue(told_by_hand([("b", "x"), ("x", "y"), ("y", "a")], "b", "a"))
        self.assertEqual([ways.always_cheapest(known), ways.always_dearest(known)], [{"b": 1}, {"a": 1}])
        out, into, prices = ways.better({"a": 1}, known)
        self.assertEqual([out, into, sorted(prices), prices["a"], prices["b"]], ["a", "b", ["a", "b", "x", "y"], 1, 0])


if __name__ == "__main__":
    unittest.main()

"""Points 3, 4 and 55 to 57: what entries are worth, in exact numbers and in whole cents."""

import random
import unittest
from fractions import Fraction
from itertools import product
from math import floor

from helping import BIG, Case, added, entries_of, ratio, row_of, rules, table, value_at
from lotcosts.books import Book
from lotcosts.cents import dealt, rounded, worth
from lotcosts.costing import Costing
from lotcosts.errors import NameTaken, Negative, NoPrice, NoRatio, NotEnough, TooMany, UnknownName
from lotcosts.layers import Rule
from lotcosts.ratios import Ratio

PLAIN = ["buy a 3", "sell s 2", "buy b 4", "late c b", "sell t 3", "back s 1", "late d a"]


def nearest(number):
    """The nearest integer, of two the greater."""
    return floor(Fraction(number) + Fraction(1, 2))


class WorthCase(Case):
    def assert_places(self, rows, book, rule):
        self.assertIs(type(rows), list)
        for row in rows:
            self.assertIs(type(row), tuple)
            self.assertIs(type(row[0]), tuple)
        self.assertEqual([place for place, _ in rows], rule.worked(book))

    def assert_rows(self, book, rule, prices):
        """Check worth and rounded against the forms that a costing books."""
        costs = Costing(book, rule)
        rows, cents = worth(book, rule, prices), rounded(book, rule, prices)
        self.assert_places(rows, book, rule)
        self.assert_places(cents, book, rule)
        value = total = Fraction(0)
        for (place, told), (_, whole) in zip(rows, cents):
            booked = value_at(costs.booked(*place), prices)
            value += booked
            self.assert_ratio(told, value)
            self.assertIs(type(whole), int)
            total += whole
            self.assertEqual(total, nearest(value))
            self.assertLess(abs(whole - booked), 1)


class WorthTest(WorthCase):
    def test_a_book_without_entries(self):
        for rule in rules((0, 3)):
            self.assertEqual([worth(Book(), rule, {}), rounded(Book(), rule, {"a": -1})], [[], []])

    def test_values_by_hand(self):
        prices = {"a": 2, "b": Ratio(5, 2), "c": 1, "d": 3}
        rows = worth(row_of(PLAIN), Rule("oldest"), prices)
        values = [0, 4, 4, 4, Fraction(23, 2), Fraction(19, 2), Fraction(23, 2)]
        self.assertEqual([place for place, _ in rows], [(day, 0) for day in range(7)])
        for (_, told), value in zip(rows, values):
            self.assert_ratio(told, value)
        self.assertEqual([whole for _, whole in rounded(row_of(PLAIN), Rule("oldest"), prices)],
                         [0, 4, 0, 0, 8, -2, 2])

    def test_every_rule(self):
        chance = random.Random(41)
        for rule in rules((0, 1, 2, 5)):
            for entries in (PLAIN, PLAIN[:4] + ["sell u 1", "back u 1", "buy e 2"] + PLAIN[4:]):
                for _ in range(5):
                    prices = {name: ratio(Fraction(chance.randint(0, 30), chance.randint(1, 6))) for name in "abcdez"}
                    self.assert_rows(row_of(entries), rule, prices)

    def test_the_order_of_working_through(self):
        book = row_of(["buy a 1", "sell s 1", "buy b 1"])
        rows = worth(book, Rule("newest", period=3), {"a": 1, "b": 5})
        self.assertEqual([(place, value.top) for place, value in rows], [((0, 0), 0), ((2, 0), 0), ((1, 0), 5)])
        self.assertEqual(rounded(book, Rule("newest", period=3), {"a": 1, "b": 5}),
                         [((0, 0), 0), ((2, 0), 0), ((1, 0), 5)])

    def test_halves_of_cents(self):
        book = row_of(["buy a 9"] + [f"sell {name} 1" for name in "stuv"] + ["back s 1", "back t 1", "back u 1"])
        self.assertEqual([whole for _, whole in rounded(book, Rule("oldest"), {"a": Ratio(1, 2)})],
                         [0, 1, 0, 1, 0, 0, -1, 0])
        self.assertEqual([whole for _, whole in rounded(book, Rule("oldest"), {"a": Ratio(3, 2)})],
                         [0, 2, 1, 2, 1, -1, -2, -1])
        self.assert_rows(book, Rule("oldest"), {"a": Ratio(BIG, 2)})

    def test_prices_of_0_and_long_prices(self):
        self.assert_rows(row_of(PLAIN), Rule("even"), {name: 0 for name in "abcd"})
        self.assert_rows(row_of(PLAIN), Rule("even"), {"a": BIG, "b": Ratio(1, BIG), "c": Ratio(BIG, 7), "d": 1})

    def test_other_names_have_no_effect(self):
        prices = {"a": 1, "b": 2, "c": 3, "d": 4}
        more = {**prices, "s": -5, "t": -1, "z": Ratio(-1, 2)}
        for rule in rules((0, 2)):
            self.assertEqual(rounded(row_of(PLAIN), rule, more), rounded(row_of(PLAIN), rule, prices))

    def test_errors_of_a_costing_come_first(self):
        cases = [(["sell s 2"], NotEnough, {"day": 0, "number": 0, "missing": 2}),
                 (["buy a 1", "buy a 2"], NameTaken, {"name": "a"}), (["buy a 1", "late c z"], UnknownName, {"name": "z"}),
                 (["buy a 1", "sell s 1", "back s 2"], TooMany, {"day": 2, "number": 0, "left": 1})]
        for entries, error, attributes in cases:
            for deed in (worth, rounded):
                for prices in ({}, {"a": -1}):
                    self.assert_error(error, attributes, lambda: deed(row_of(entries), Rule("oldest"), prices))

    def test_missing_prices(self):
        for deed in (worth, rounded):
            for prices, name in [({}, "a"), ({"a": -1, "c": -1, "d": 1}, "b"), ({"a": 1, "b": 1, "s": 1, "d": 1}, "c"),
                                 ({"a": 1, "b": 1, "c": 1}, "d")]:
                self.assert_error(NoPrice, {"name": name}, lambda: deed(row_of(PLAIN), Rule("oldest"), prices))
            # Also of a lot of which nothing is sold.
            self.assert_error(NoPrice, {"name": "a"}, lambda: deed(row_of(["buy a 1"]), Rule("oldest"), {"b": 1}))

    def test_prices_below_0(self):
        for deed in (worth, rounded):
            for prices, name in [({"a": 0, "b": -1, "c": -1, "d": 0}, "b"), ({"a": 0, "b": 0, "c": 0, "d": -1}, "d"),
                                 ({"a": Ratio(-1, BIG), "b": 1, "c": -2, "d": 0}, "a")]:
                self.assert_error(Negative, {"name": name}, lambda: deed(row_of(PLAIN), Rule("oldest"), prices))
            self.assert_error(Negative, {"name": "a"}, lambda: deed(row_of(["buy a 1"]), Rule("even"), {"a": -1}))

    def test_results_are_new_and_arguments_stay(self):
        book, prices = row_of(PLAIN), {"a": 1, "b": 2, "c": 3, "d": 4}
        for deed in (worth, rounded):
            deed(book, Rule("oldest"), prices).clear()
        self.assert_rows(book, Rule("oldest"), prices)
        self.assertEqual([entries_of(book), prices], [entries_of(row_of(PLAIN)), {"a": 1, "b": 2, "c": 3, "d": 4}])

    def test_all_values_add_up_to_the_costs_of_all_sales(self):
        prices = {"a": 7, "b": Ratio(1, 3), "c": 2, "d": Ratio(5, 4)}
        for rule in rules((0, 2)):
            costs = Costing(row_of(PLAIN), rule)
            total = added(table(costs.cost("s")), table(costs.cost("t")))
            value = sum(share * Fraction(ratio_of(prices[name])) for name, share in total.items())
            self.assert_ratio(worth(row_of(PLAIN), rule, prices)[-1][1], value)
            self.assertEqual(sum(whole for _, whole in rounded(row_of(PLAIN), rule, prices)), nearest(value))


def ratio_of(price):
    return price if isinstance(price, int) else Fraction(price.top, price.bottom)


class DealtTest(Case):
    def assert_dealt(self, cents, amounts):
        exact = [Fraction(ratio_of(amount)) for amount in amounts]
        parts = dealt(cents, amounts)
        self.assertIs(type(parts), list)
        self.assertEqual(len(parts), len(amounts))
        total, before = sum(exact), 0
        for at, part in enumerate(parts):
            self.assertIs(type(part), int)
            after = nearest(cents * sum(exact[:at + 1]) / total)
            self.assertEqual(part, after - before)
            self.assertLess(abs(part - cents * exact[at] / total), 1)
            before = after
        self.assertEqual(sum(parts), cents)

    def test_by_hand(self):
        self.assertEqual(dealt(10, [1, 1, 1]), [3, 4, 3])
        self.assertEqual(dealt(1, [1, 1]), [1, 0])
        self.assertEqual(dealt(-1, [1, 1]), [0, -1])
        self.assertEqual(dealt(3, [1, 1]), [2, 1])
        self.assertEqual(dealt(-3, [1, 1]), [-1, -2])
        self.assertEqual(dealt(7, [5]), [7])
        self.assertEqual(dealt(0, [1, 2]), [0, 0])
        self.assertEqual(dealt(5, [0, 1, 0, 1, 0]), [0, 3, 0, 2, 0])
        self.assertEqual(dealt(100, [Ratio(1, 3), Ratio(1, 6), Ratio(1, 2)]), [33, 17, 50])

    def test_small_amounts(self):
        for many in range(1, 5):
            for amounts in product((0, 1, 2, Ratio(1, 3)), repeat=many):
                if any(ratio_of(amount) for amount in amounts):
                    for cents in (-7, -2, -1, 0, 1, 2, 3, 10):
                        self.assert_dealt(cents, list(amounts))

    def test_long_numbers(self):
        self.assert_dealt(BIG, [BIG, 1, Ratio(1, BIG), Ratio(BIG, 3)])
        self.assert_dealt(-BIG * BIG, [Ratio(1, 3), 2, BIG])
        self.assert_dealt(1, [1] * 500)

    def test_amounts_without_a_proportion(self):
        for cents in (-1, 0, 5):
            for amounts in ([], [0], [0, Ratio(0), 0], [-1], [1, -1], [5, -1], [Ratio(-1, BIG), 7], [-1, 0, -2]):
                self.assert_error(NoRatio, {}, lambda: dealt(cents, amounts))

    def test_the_amounts_stay_and_results_are_new(self):
        amounts = [1, 2, 3]
        dealt(7, amounts).clear()
        self.assertEqual([amounts, sum(dealt(7, amounts))], [[1, 2, 3], 7])


if __name__ == "__main__":
    unittest.main()

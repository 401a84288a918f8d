"""Points 3, 4 and 63 to 67: what later entries can show."""

import random
import unittest
from fractions import Fraction

from helping import MOST, Case, entries_of, fraction, row_of, rules, table
from lotcosts.books import Book
from lotcosts.costing import Costing
from lotcosts.errors import CostError, NameTaken, NotEnough, Short, UnknownName
from lotcosts.later import later_parts, next_cost, pieces
from lotcosts.layers import Rule

PLAIN = ["buy a 3", "sell s 2", "buy b 4", "late cc b", "sell t 3", "back s 1", "late dd a"]
# Books with the same lots and late costs, whose stocks differ in several ways.
STOCKS = [
    [],
    ["buy a 2"],
    ["buy a 2", "sell s 2"],
    ["buy a 2", "buy b 3"],
    ["buy b 3", "buy a 2"],
    ["buy a 2", "buy b 3", "sell s 1", "back s 1"],
    ["buy a 2", "buy b 3", "sell s 4", "back s 4"],
    ["buy a 4", "buy b 6"],
    ["buy a 4", "buy b 6", "sell s 5"],
    ["buy a 2", "buy b 3", "buy c 1", "sell s 1"],
    ["buy a 2", "buy b 3", "buy c 2", "sell s 2", "sell t 1", "back s 2"],
    ["buy a 2", "sell s 1", "buy b 3", "back s 1"],
    ["buy a 2", "late dd a", "buy b 3", "late cc b"],
    PLAIN,
]


def amounts_of(costs):
    """The amount of each lot in stock."""
    amounts = {}
    for lot, amount in costs.layers():
        amounts[lot] = amounts.get(lot, 0) + fraction(amount)
    return amounts


def taken_by_hand(book, rule, units):
    """The amounts of each lot that a sale of these units would take as the first later entry, or None."""
    later = book.joined(Book())
    day = rule.period or 1
    later[day * 50, 0] = ("sell", "later", units)
    try:
        costs = Costing(later, rule)
    except NotEnough:
        return None
    taken = {}
    for lot, amount in costs.parts("later"):
        taken[lot] = taken.get(lot, 0) + fraction(amount)
    return taken


class NextCostTest(Case):
    def test_like_a_sale_that_is_entered(self):
        for entries in STOCKS:
            book = row_of(entries)
            for rule in rules((0, 1, 3)):
                stock = sum(amounts_of(Costing(book, rule)).values())
                for units in range(1, int(stock) + 1):
                    later = book.joined(Book())
                    later[200, 0] = ("sell", "later", units)
                    self.assert_form(next_cost(book, rule, units), table(Costing(later, rule).cost("later")))

    def test_all_late_costs_of_the_book(self):
        self.assert_form(next_cost(row_of(PLAIN), Rule("oldest"), 1), {"a": 1, "dd": Fraction(1, 3)})
        self.assert_form(next_cost(row_of(PLAIN), Rule("newest"), 1), {"b": 1, "cc": Fraction(1, 4)})
        self.assert_form(next_cost(row_of(PLAIN), Rule("newest"), 2), {"a": 1, "dd": Fraction(1, 3), "b": 1,
                                                                     "cc": Fraction(1, 4)})

    def test_a_period_that_is_not_over(self):
        # A later entry stands in a later period, so it sees all lots of this one.
        book = row_of(["buy a 1", "sell s 1", "buy b 1"])
        self.assert_form(next_cost(book, Rule("newest", period=9), 1), {"a": 1})
        self.assert_form(next_cost(book, Rule("newest"), 1), {"b": 1})

    def test_all_units_and_one_more(self):
        for rule in rules((0, 2)):
            book = row_of(PLAIN)
            self.assert_form(next_cost(book, rule, 3), table(Costing(book, rule).stock()))
            self.assert_error(Short, {"missing": Fraction(1)}, lambda: next_cost(book, rule, 4))

    def test_short_by_any_number(self):
        for rule in rules((0, 2)):
            self.assert_error(Short, {"missing": Fraction(1)}, lambda: next_cost(Book(), rule, 1))
            self.assert_error(Short, {"missing": Fraction(10 ** 60 - 3)}, lambda: next_cost(row_of(PLAIN), rule, 10 ** 60))

    def test_more_units_than_an_entry_may_have(self):
        book = row_of([f"buy {name} {MOST}" for name in "abc"])
        self.assert_form(next_cost(book, Rule("oldest"), 2 * MOST + 1), {"a": MOST, "b": MOST, "c": 1})
        self.assert_form(next_cost(book, Rule("even"), 3 * MOST), {"a": MOST, "b": MOST, "c": MOST})

    def test_errors_of_a_costing_come_first(self):
        book = row_of(["buy a 1", "buy a 1"])
        self.assert_error(NameTaken, {"name": "a"}, lambda: next_cost(book, Rule("oldest"), 9))

    def test_the_book_stays(self):
        book = row_of(PLAIN)
        next_cost(book, Rule("even"), 2)
        self.assertEqual(entries_of(book), entries_of(row_of(PLAIN)))


class PiecesTest(Case):
    def assert_pieces(self, book, rule):
        rows = pieces(book, rule)
        self.assertIs(type(rows), list)
        for row in rows:
            self.assertIs(type(row), tuple)
        amounts = amounts_of(Costing(book, rule))
        if rule.take == "even":
            total = sum(amounts.values())
            self.assertEqual([(lot, fraction(share)) for lot, share in rows],
                             [(lot, amounts[lot] / total) for lot in sorted(amounts)])
            for _, share in rows:
                self.assert_ratio(share, fraction(share))
            return
        units = []
        for lot, many in rows:
            self.assertIs(type(many), int)
            self.assertGreater(many, 0)
            units += [lot] * many
        self.assertTrue(all(low != high for (low, _), (high, _) in zip(rows, rows[1:])))
        for count in range(1, len(units) + 1):
            first = units[:count]
            self.assertEqual(taken_by_hand(book, rule, count), {lot: first.count(lot) for lot in first})
        self.assertIsNone(taken_by_hand(book, rule, len(units) + 1))

    def test_every_stock_and_rule(self):
        for entries in STOCKS:
            for rule in rules((0, 1, 4)):
                self.assert_pieces(row_of(entries), rule)

    def test_an_empty_stock(self):
        for rule in rules((0, 3)):
            self.assertEqual([pieces(Book(), rule), pieces(row_of(["buy a 2", "sell s 2"]), rule)], [[], []])

    def test_by_hand(self):
        book = row_of(["buy b 2", "buy a 3", "sell s 1", "back s 1"])
        self.assertEqual(pieces(book, Rule("oldest")), [("b", 2), ("a", 3)])
        self.assertEqual(pieces(book, Rule("newest")), [("a", 3), ("b", 2)])
        self.assertEqual(pieces(book, Rule("newest", place="bottom")), [("a", 2), ("b", 2), ("a", 1)])
        self.assertEqual(pieces(book, Rule("oldest", place="top")), [("b", 1), ("a", 3), ("b", 1)])
        self.assertEqual([(lot, share.top, share.bottom) for lot, share in pieces(book, Rule("even"))],
                         [("a", 3, 5), ("b", 2, 5)])

    def test_errors_and_new_lists(self):
        self.assert_error(UnknownName, {"name": "s"}, lambda: pieces(row_of(["buy a 1", "back s 1"]), Rule("even")))
        book = row_of(PLAIN)
        pieces(book, Rule("oldest")).clear()
        pieces(book, Rule("even")).clear()
        self.assert_pieces(book, Rule("oldest"))
        self.assert_pieces(book, Rule("even"))


class LaterPartsTest(Case):
    def least_by_hand(self, one, other, rule):
        """The least sale that parts two books; sales of one more than the lesser stock part all that can be."""
        stocks = [amounts_of(Costing(book, rule)) for book in (one, other)]
        for units in range(1, int(min(sum(stock.values()) for stock in stocks)) + 2):
            if taken_by_hand(one, rule, units) != taken_by_hand(other, rule, units):
                return units
        return None

    def test_every_two_stocks(self):
        seen = {}
        for first in STOCKS:
            for second in STOCKS:
                for rule in rules((0, 2)):
                    one, other = row_of(first), row_of(second)
                    units = later_parts(one, other, rule)
                    self.assertEqual(units, self.least_by_hand(one, other, rule), (first, second))
                    seen[units] = seen.get(units, 0) + 1
        self.assertGreater(len(seen), 5)

    def test_the_same_book(self):
        for entries in STOCKS:
            for rule in rules((0, 2)):
                self.assertIsNone(later_parts(row_of(entries), row_of(entries), rule))

    def test_order_alone(self):
        one, other = row_of(["buy a 2", "buy b 2"]), row_of(["buy b 2", "buy a 2"])
        self.assertEqual([later_parts(one, other, rule) for rule in (Rule("oldest"), Rule("newest"), Rule("even"))],
                         [1, 1, None])

    def test_far_down(self):
        one = row_of([f"buy a {MOST}", f"buy b {MOST}", "buy c 5", "sell s 1", "back s 1"])
        other = row_of([f"buy a {MOST}", f"buy b {MOST - 1}", "buy c 6", "buy d 1"])
        self.assertEqual(later_parts(one, other, Rule("oldest")), 2 * MOST)
        self.assertEqual(later_parts(one, other, Rule("newest")), 1)
        self.assertEqual(later_parts(one, one, Rule("oldest", place="top")), None)
        less = row_of([f"buy a {MOST - 1}", f"buy b {MOST}", "buy c 5"])
        self.assertEqual([later_parts(one, less, Rule("newest")), later_parts(less, one, Rule("newest"))],
                         [2 * MOST + 5] * 2)

    def test_one_unit_more(self):
        for rule in rules():
            one, other = row_of(["buy a 5"]), row_of(["buy a 6"])
            self.assertEqual([later_parts(one, other, rule), later_parts(other, one, rule)], [6, 6])
        self.assertEqual(later_parts(row_of(["buy a 2", "buy b 2"]), row_of(["buy a 2", "buy b 3"]), Rule("even")), 1)

    def test_the_same_mixture_of_other_units(self):
        one, other = row_of(["buy a 2", "buy b 4"]), row_of(["buy b 8", "buy a 4"])
        self.assertEqual([later_parts(one, other, Rule("even")), later_parts(other, one, Rule("even"))], [7, 7])
        third = row_of(["buy a 4", "buy b 8", "sell s 6"])
        self.assertIsNone(later_parts(one, third, Rule("even")))

    def test_an_empty_stock(self):
        for rule in rules():
            one, other = row_of(["buy a 3", "sell s 3"]), row_of(["buy b 1"])
            self.assertEqual([later_parts(one, Book(), rule), later_parts(one, other, rule),
                              later_parts(other, Book(), rule)], [None, 1, 1])

    def test_late_costs_are_left_out_of_account(self):
        for rule in rules():
            self.assertIsNone(later_parts(row_of(["buy a 3", "late c a"]), row_of(["buy a 3"]), rule))

    def test_the_rule_counts(self):
        one = row_of(["buy a 2", "sell s 1", "buy b 1"])
        other = row_of(["buy a 2", "buy b 1", "sell s 1"])
        self.assertEqual([later_parts(one, other, Rule("newest")), later_parts(one, other, Rule("newest", period=3))],
                         [1, None])

    def test_the_first_book_comes_first(self):
        wrong, worse = row_of(["buy a 1", "buy a 1"]), row_of(["sell s 1"])
        fine = row_of(["buy a 1"])
        for rule in rules():
            self.assert_error(NameTaken, {"name": "a"}, lambda: later_parts(wrong, worse, rule))
            self.assert_error(NotEnough, {"day": 0, "number": 0, "missing": 1}, lambda: later_parts(worse, wrong, rule))
            self.assert_error(NameTaken, {"name": "a"}, lambda: later_parts(fine, wrong, rule))

    def test_the_books_stay(self):
        one, other = row_of(STOCKS[3]), row_of(STOCKS[5])
        later_parts(one, other, Rule("oldest", place="top"))
        self.assertEqual([entries_of(one), entries_of(other)], [entries_of(row_of(STOCKS[3])), entries_of(row_of(STOCKS[5]))])

    def test_books_that_no_sale_parts_are_alike_for_all_later_entries(self):
        chance = random.Random(51)
        seen = {True: 0, False: 0}
        while min(seen.values()) < 60:
            one, other = [row_of(chance.choice(STOCKS)) for _ in range(2)]
            rule = chance.choice(rules((0, 5)))
            if later_parts(one, other, rule) is not None:
                continue
            found = []
            rows = [("buy", "xyz"[at], chance.randint(1, 3)) for at in range(3)]
            rows += [("sell", "uvw"[at], chance.randint(1, 4)) for at in range(3)]
            chance.shuffle(rows)
            rows += [("back", "uvw"[at], 1) for at in range(3)] + [("sell", "last", chance.randint(1, 6))]
            rows += [("late", "yy", "x")]
            for book in (one, other):
                for at, entry in enumerate(rows):
                    book[100 + at // 2, at] = entry
                try:
                    costs = Costing(book, rule)
                except CostError:
                    found.append(None)
                else:
                    forms = [table(costs.cost(sale)) for sale in ("u", "v", "w", "last")]
                    found.append([{name: share for name, share in form.items() if name not in ("cc", "dd")}
                                  for form in forms])
            seen[found[0] is None] += 1
            self.assertEqual(found[0], found[1])


if __name__ == "__main__":
    unittest.main()

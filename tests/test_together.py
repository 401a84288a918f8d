"""What the document promises over several parts of the program together."""

import random
import unittest
from fractions import Fraction

from helping import Case, added, entries_of, fraction, negated, ratio, rules, table, value_at
from lotcosts.books import Book
from lotcosts.cents import dealt, rounded, worth
from lotcosts.closing import Ledger, changes
from lotcosts.costing import Costing
from lotcosts.desk import Desk
from lotcosts.errors import CostError
from lotcosts.forms import Form
from lotcosts.histories import returns_show, rules_part
from lotcosts.known import Known, carried, never_more
from lotcosts.later import next_cost, pieces
from lotcosts.layers import Rule
from lotcosts.limits import Limits, greatest, least
from lotcosts.ratios import Ratio
from lotcosts.shown import Shown
from lotcosts.ways import Ways

RULES = rules((0, 1, 3))


def some_book(chance, returns=True):
    """A book that every rule without periods can cost, mostly also the other ones, with late costs among its entries."""
    book, stock, sold = Book(), 0, {}
    lots, late = [], 0
    for step in range(chance.randint(4, 16)):
        place = step // 2, step
        word = chance.choice(["buy", "sell", "sell", "back", "late"])
        if word == "back" and returns and any(sold.values()):
            sale = chance.choice([sale for sale in sold if sold[sale]])
            units = chance.randint(1, sold[sale])
            book[place] = ("back", sale, units)
            sold[sale] -= units
            stock += units
        elif word == "sell" and stock:
            units = chance.randint(1, min(stock, 4))
            sale = "s" + "abcdefghijklmnopqrstuvwxyz"[len(sold)]
            book[place] = ("sell", sale, units)
            sold[sale] = units
            stock -= units
        elif word == "late" and lots and late < 3:
            book[place] = ("late", "xyz"[late], chance.choice(lots))
            late += 1
        else:
            lots.append("abcdefghijklmnopqrstuvwxyz"[len(lots)])
            units = chance.randint(1, 5)
            book[place] = ("buy", lots[-1], units)
            stock += units
    return book


def some_prices(chance, book):
    return {name: ratio(Fraction(chance.randint(0, 99), chance.randint(1, 4))) for name in book.lots() + book.late_costs()}


def all_costs(costs, book):
    """All that a costing, or a desk, tells of a book."""
    return ({sale: table(costs.cost(sale)) for sale in book.sales()},
            {place: table(costs.booked(*place)) for place in book.places()}, table(costs.stock()),
            [table(costs.until(day)) for day in range(12)])


class TogetherCase(Case):
    def some_cases(self, seed, many=60, returns=True):
        """Books, rules that can cost them, and their costings."""
        chance = random.Random(seed)
        found = 0
        while found < many:
            book, rule = some_book(chance, returns), chance.choice(RULES)
            try:
                costs = Costing(book, rule)
            except CostError:
                continue
            found += 1
            yield chance, book, rule, costs


class SameEntriesTest(TogetherCase):
    def test_entries_in_any_order(self):
        for chance, book, rule, costs in self.some_cases(81):
            expected = all_costs(costs, book)
            places = book.places()
            chance.shuffle(places)
            again, parts = Book(), [Book(), Book()]
            for at, place in enumerate(places):
                again[place] = ("buy", "zz", 1)
                again[place] = book[place]
                parts[at % 2][place] = book[place]
            for other in (again, parts[0].joined(parts[1]), parts[1].joined(parts[0])):
                self.assertEqual(all_costs(Costing(other, rule), book), expected)

    def test_books_ledgers_and_desks(self):
        for chance, book, rule, costs in self.some_cases(82):
            expected = all_costs(costs, book)
            desk = Desk(rule)
            desk.all_of(book)
            self.assertEqual(all_costs(desk, book), expected)
            ledger, later = Ledger(Book(), rule), Ledger(book, rule)
            for place in reversed(book.places()):
                ledger.enter(*place, book[place])
            for day in range(12):
                self.assert_form(later.close(day), added(expected[3][day], negated(expected[3][day - 1] if day else {})))
            self.assert_form(ledger.close(11), expected[3][11])

    def test_trials_leave_the_costs(self):
        for chance, book, rule, costs in self.some_cases(83, 30):
            expected = all_costs(costs, book)
            desk = Desk(rule)
            desk.all_of(book)
            before = entries_of(book)
            with book.trial(), desk.trial():
                for place in book.places()[::2]:
                    book.remove(*place)
                desk.follow(Rule("newest"))
                desk[0, 999] = ("buy", "zz", 9)
                desk[11, 999] = ("sell", "zz", 5)
            self.assertEqual(entries_of(book), before)
            self.assertEqual(all_costs(desk, book), expected)
            self.assertEqual(all_costs(Costing(book, rule), book), expected)

    def test_the_same_errors_everywhere(self):
        chance = random.Random(84)
        seen = 0
        for _ in range(200):
            book, rule = some_book(chance), chance.choice(RULES)
            book.remove(*chance.choice(book.places()))
            try:
                Costing(book, rule)
            except CostError as wrong:
                seen += 1
                prices = some_prices(chance, book)
                deeds = [lambda: Desk(rule).all_of(book), lambda: Ledger(book, rule).close(99),
                         lambda: worth(book, rule, prices), lambda: rounded(book, rule, {}),
                         lambda: pieces(book, rule), lambda: next_cost(book, rule, 1),
                         lambda: changes(book, rule, 50, 0, ("buy", "zz", 1))]
                for deed in deeds:
                    self.assert_error(wrong.__class__, vars(wrong), deed)
        self.assertGreater(seen, 50)


class SumsTest(TogetherCase):
    def test_booked_sold_in_stock_and_paid(self):
        for chance, book, rule, costs in self.some_cases(85, 120):
            sold = added(*[table(costs.cost(sale)) for sale in book.sales()])
            booked = added(*[table(costs.booked(*place)) for place in book.places()])
            self.assertEqual(booked, sold)
            self.assertEqual(table(costs.until(99)), sold)
            self.assertEqual(added(booked, table(costs.stock())), table(costs.paid()))
            bought = {book[place][1]: book[place][2] for place in book.places() if book[place][0] == "buy"}
            self.assertEqual(table(costs.paid()), {**bought, **{name: 1 for name in book.late_costs()}})

    def test_statements_and_corrections(self):
        seen = 0
        for chance, book, rule, costs in self.some_cases(86, 80):
            ledger = Ledger(book, rule)
            days = sorted(chance.sample(range(10), 3))
            for day in days:
                ledger.close(day)
                place, entry = (chance.randint(0, 9), 500 + day), ("buy", "z" + "abcdefghij"[day], chance.randint(1, 4))
                changed = book.joined(Book())
                changed[place] = entry
                sales, stock = changes(book, rule, *place, entry)
                ledger.enter(*place, entry)
                before, after = Costing(book, rule), Costing(changed, rule)
                # What all sales and the stock cost more is what was paid more.
                moved = added(*[table(form) for form in sales.values()], table(stock))
                self.assertEqual(moved, added(table(after.paid()), negated(table(before.paid()))))
                self.assertEqual(table(ledger.pending()), added(table(after.until(day)), negated(table(before.until(day)))))
                seen += bool(table(ledger.pending()))
                book = changed
            ledger.close(99)
            statements = [table(ledger.statement(day)) for day in ledger.closed()]
            costs = Costing(book, rule)
            self.assertEqual(added(*statements), added(*[table(costs.cost(sale)) for sale in book.sales()]))
            self.assert_form(ledger.pending(), {})
        self.assertGreater(seen, 20)

    def test_whole_cents_add_up(self):
        for chance, book, rule, costs in self.some_cases(87, 80):
            prices = some_prices(chance, book)
            values = {sale: costs.cost(sale).at(prices) for sale in book.sales()}
            total = Ratio.sum_of(list(values.values()))
            self.assertEqual(sum(cents for _, cents in rounded(book, rule, prices)), total.nearest())
            self.assertTrue(worth(book, rule, prices)[-1][1].same(total))
            self.assertTrue((total + costs.stock().at(prices)).same(costs.paid().at(prices)))
            if not total.same(0):
                parts = dealt(total.nearest(), list(values.values()))
                self.assertEqual(sum(parts), total.nearest())
                self.assertEqual(len(parts), len(values))

    def test_desks_tell_the_same_amounts(self):
        for chance, book, rule, costs in self.some_cases(88):
            prices = some_prices(chance, book)
            desk = Desk(rule)
            for name, price in prices.items():
                desk.tell(name, price)
            desk.all_of(book)
            for sale in book.sales():
                self.assert_ratio(desk.amount(sale), value_at(costs.cost(sale), prices))
            self.assert_ratio(desk.value(), value_at(costs.stock(), prices))
            units = sum(fraction(amount) for _, amount in costs.layers())
            if units:
                def sold(desk):
                    desk[99, 0] = ("sell", "last", int(units))
                    return desk.cost("last")
                self.assert_form(desk.tried(sold), table(costs.stock()))
                self.assert_form(next_cost(book, rule, int(units)), table(costs.stock()))


class PricesTest(TogetherCase):
    def test_never_more_and_the_greatest_value(self):
        seen = {True: 0, False: 0}
        for chance, book, rule, costs in self.some_cases(89, 80):
            lots = book.lots()
            known = Known(list(zip(lots, lots[1:])))
            others = Costing(book, Rule("newest", period=rule.period))
            for sale in book.sales():
                one, other = costs.cost(sale), others.cost(sale)
                never = never_more(one, other, known) is None
                seen[never] += 1
                self.assertIs(carried(one, other, known) is not None, never)
                value, told = greatest(one - other, Limits(known))
                self.assertIs(value is not None and value.same(0), never)
                # Values grow with the prices, so without a greatest one the form is greater at some prices.
                self.assertEqual(value is None, not never)
                bounded = Limits(known, high={name: 1 for name in {*lots, *one.names(), *other.names()}})
                top, prices = greatest(one - other, bounded)
                self.assertIs(top.at_most(0), never)
                self.assert_ratio(-least(other - one, bounded)[0], fraction(top))
                self.assertTrue((one - other).at(prices).same(top))
        self.assertGreater(min(seen.values()), 10)

    def test_rules_take_units_that_are_possible(self):
        for chance, book, rule, costs in self.some_cases(90, 80, returns=False):
            if rule.take == "even":
                continue
            units = {}
            for sale in book.sales():
                for lot, amount in costs.parts(sale):
                    units[lot] = units.get(lot, 0) + amount.top
            if rule.period == 0:
                ways = Ways(book)
                prices = some_prices(chance, book)
                self.assertIs(ways.possible(units), True)
                cost = value_at(Form(units), prices)
                self.assertLessEqual(value_at(Form(ways.cheapest(prices)), prices), cost)
                self.assertGreaterEqual(value_at(Form(ways.dearest(prices)), prices), cost)
                lots = book.lots()
                better = ways.better(units, Known(list(zip(lots, lots[1:]))))
                self.assertTrue(better is None or rule.take == "newest")

    def test_shown_costs_tell_what_was_paid(self):
        for chance, book, rule, costs in self.some_cases(91, 40):
            forms = [costs.cost(sale) for sale in book.sales()] + [costs.stock()]
            shown = Shown(forms)
            prices = some_prices(chance, book)
            values = [form.at(prices) for form in forms]
            self.assert_ratio(shown.value(costs.paid(), values), value_at(costs.paid(), prices))
            self.assertIsNone(shown.unseen(costs.paid()))
            hidden = Shown(forms[:-1]).unseen(costs.paid())
            if hidden is not None:
                moved = {name: prices.get(name, Ratio(0)) + hidden[name] * Ratio(1, 1000) for name in hidden}
                self.assertEqual([value_at(form, {**prices, **moved}) for form in forms[:-1]],
                                 [fraction(value) for value in values[:-1]])
                self.assertNotEqual(value_at(costs.paid(), {**prices, **moved}), value_at(costs.paid(), prices))

    def test_books_that_part_rules_part_desks(self):
        for one in RULES:
            for other in RULES:
                book = rules_part(one, other)
                if book is not None:
                    desk = Desk(one)
                    desk.all_of(book)
                    costs = [table(desk.cost(sale)) for sale in book.sales()]
                    desk.follow(other)
                    self.assertNotEqual([table(desk.cost(sale)) for sale in book.sales()], costs)
            book = returns_show(one)
            if book is not None:
                desk = Desk(one)
                desk.all_of(book)
                places = one.worked(book)
                last = book[places[-1]][1]
                cost = table(desk.cost(last))
                desk.remove(*places[-2])
                self.assertEqual(len(desk), 4)
                desk.remove(*places[-3])
                self.assertNotEqual(table(desk.cost(last)), cost)


if __name__ == "__main__":
    unittest.main()

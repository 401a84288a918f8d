"""Points 3, 4 and 50 to 53: late entries, ledgers and their statements."""

import random
import unittest

from helping import MOST, Case, added, entries_of, negated, row_of, rules, table
from lotcosts.books import Book
from lotcosts.closing import Ledger, changes
from lotcosts.costing import Costing
from lotcosts.errors import BadEntry, CostError, NameTaken, NotClosed, NotEnough, Shut, TooMany, UnknownName
from lotcosts.forms import Form
from lotcosts.layers import Rule

PLAIN = ["buy a 3", "sell s 2", "buy b 4", "sell t 3", "back s 1"]


def forms_of(forms):
    return {name: table(form) for name, form in forms.items()}


class ChangesTest(Case):
    def assert_changes(self, told, sales, stock):
        self.assertIs(type(told), tuple)
        self.assertIs(type(told[0]), dict)
        self.assertEqual({type(form) for form in told[0].values()} | {Form}, {Form})
        self.assertEqual(forms_of(told[0]), sales)
        self.assert_form(told[1], stock)

    def test_a_lot_that_is_entered_late(self):
        book = row_of(["buy a 3", "sell s 2", "sell t 1"], first=1)
        cases = [("newest", {"s": {"a": -2, "z": 2}, "t": {"a": -1, "z": 1}}, {"a": 3}), ("oldest", {}, {"z": 3}),
                 ("even", {"s": {"a": -1, "z": 1}, "t": {"a": -0.5, "z": 0.5}}, {"a": 1.5, "z": 1.5})]
        for take, sales, stock in cases:
            self.assert_changes(changes(book, Rule(take), 1, 1, ("buy", "z", 3)), sales, stock)

    def test_in_place_of_an_entry(self):
        book = row_of(PLAIN)
        self.assert_changes(changes(book, Rule("oldest"), 1, 0, ("sell", "s", 3)),
                            {"s": {"a": 1}, "t": {"a": -1, "b": 1}}, {"b": -1})
        self.assert_changes(changes(book, Rule("newest"), 2, 0, ("buy", "c", 4)), {"t": {"b": -3, "c": 3}},
                            {"b": -1, "c": 1})

    def test_a_sale_that_only_one_book_has(self):
        book = row_of(["buy a 3", "sell s 2"])
        self.assert_changes(changes(book, Rule("oldest"), 1, 0, ("sell", "t", 1)), {"s": {"a": -2}, "t": {"a": 1}},
                            {"a": 1})
        self.assert_changes(changes(book, Rule("oldest"), 2, 0, ("sell", "t", 1)), {"t": {"a": 1}}, {"a": -1})
        self.assert_changes(changes(book, Rule("oldest"), 1, 0, ("late", "c", "a")), {"s": {"a": -2}},
                            {"a": 2, "c": 1})
        # A sale without a cost is a sale whose cost does not change where a book does not have it.
        empty = row_of(["buy a 3", "sell s 2", "back s 2"])
        self.assert_changes(changes(empty, Rule("oldest"), 1, 0, ("sell", "s", 2)), {}, {})

    def test_what_changes_nothing(self):
        book = row_of(PLAIN)
        for rule in rules((0, 2)):
            for place in book.places():
                self.assert_changes(changes(book, rule, *place, book[place]), {}, {})
        self.assert_changes(changes(book, Rule("oldest"), 9, 0, ("late", "c", "b")), {"t": {"c": 0.5}}, {"c": 0.5})
        unsold = row_of(["buy a 3", "buy b 1", "sell s 2"])
        self.assert_changes(changes(unsold, Rule("oldest"), 9, 0, ("late", "c", "b")), {}, {"c": 1})
        self.assert_changes(changes(Book(), Rule("oldest"), 0, 0, ("buy", "a", 1)), {}, {"a": 1})

    def test_sales_named_like_lots(self):
        book = row_of(["buy a 3", "sell a 2"])
        self.assert_changes(changes(book, Rule("newest"), 0, 1, ("buy", "b", 1)), {"a": {"a": -1, "b": 1}}, {"a": 1})

    def test_the_rule_counts(self):
        book = row_of(["buy a 3", "sell s 2"])
        late = ("buy", "b", 2)
        self.assert_changes(changes(book, Rule("newest"), 1, 9, late), {}, {"b": 2})
        self.assert_changes(changes(book, Rule("newest", period=2), 1, 9, late), {"s": {"a": -2, "b": 2}}, {"a": 2})

    def test_entries_that_are_wrong_in_themselves(self):
        book = row_of(["sell s 2"])
        for day, number, entry in [(0, 0, ("buy", "a", 0)), (-1, 0, ("buy", "a", 1)), (0, MOST + 1, ("buy", "a", 1)),
                                   (3, 4, ("give", "a", 1)), (3, 4, ("late", "c", 5)), (3, 4, ["buy", "a", 1])]:
            self.assert_error(BadEntry, {"day": day, "number": number},
                              lambda: changes(book, Rule("oldest"), day, number, entry))
        self.assertEqual(entries_of(book), {(0, 0): ("sell", "s", 2)})

    def test_the_book_comes_before_the_changed_book(self):
        wrong = row_of(["sell s 2"])
        deed = lambda entry, day: (lambda: changes(wrong, Rule("oldest"), day, 0, entry))
        self.assert_error(NotEnough, {"day": 0, "number": 0, "missing": 2}, deed(("buy", "a", 1), 0))
        self.assert_error(NotEnough, {"day": 0, "number": 0, "missing": 2}, deed(("sell", "s", 9), 0))
        book = row_of(PLAIN)
        cases = [(NameTaken, {"name": "a"}, 9, ("buy", "a", 1)), (UnknownName, {"name": "u"}, 9, ("back", "u", 1)),
                 (NotEnough, {"day": 1, "number": 0, "missing": 2}, 1, ("sell", "s", 5)),
                 (TooMany, {"day": 4, "number": 0, "left": 2}, 4, ("back", "s", 3))]
        for error, attributes, day, entry in cases:
            self.assert_error(error, attributes, lambda: changes(book, Rule("oldest"), day, 0, entry))
        self.assertEqual(entries_of(book), entries_of(row_of(PLAIN)))

    def test_the_book_stays_and_results_are_new(self):
        book = row_of(PLAIN)
        told = changes(book, Rule("newest"), 0, 1, ("buy", "z", 9))
        told[0].clear()
        self.assertEqual(entries_of(book), entries_of(row_of(PLAIN)))
        again = changes(book, Rule("newest"), 0, 1, ("buy", "z", 9))
        self.assertTrue(again[0])

    def test_random_entries(self):
        chance = random.Random(31)
        seen = 0
        for _ in range(400):
            rule = chance.choice(rules((0, 1, 3)))
            book = row_of(PLAIN + ["late c b", "sell u 2", "buy d 3", "back t 1"])
            day, number = chance.randint(0, 9), chance.randint(0, 1)
            entry = chance.choice([("buy", "abzd"[chance.randint(0, 3)], chance.randint(1, 5)),
                                   ("sell", "stuz"[chance.randint(0, 3)], chance.randint(1, 3)),
                                   ("back", "stu"[chance.randint(0, 2)], 1), ("late", "zc"[chance.randint(0, 1)], "a")])
            after = book.joined(Book())
            after[day, number] = entry
            try:
                costs = [Costing(book, rule), Costing(after, rule)]
            except CostError as wrong:
                self.assert_error(wrong.__class__, vars(wrong), lambda: changes(book, rule, day, number, entry))
                continue
            seen += 1
            sales = {}
            for name in {*book.sales(), *after.sales()}:
                old = table(costs[0].cost(name)) if name in book.sales() else {}
                new = table(costs[1].cost(name)) if name in after.sales() else {}
                if old != new:
                    sales[name] = added(new, negated(old))
            stock = added(table(costs[1].stock()), negated(table(costs[0].stock())))
            self.assert_changes(changes(book, rule, day, number, entry), sales, stock)
        self.assertGreater(seen, 100)


class LedgerTest(Case):
    def test_a_ledger_without_entries(self):
        ledger = Ledger(Book(), Rule("oldest"))
        self.assertEqual(ledger.closed(), [])
        self.assert_form(ledger.pending(), {})
        self.assert_form(ledger.close(4), {})
        self.assertEqual(ledger.closed(), [4])
        self.assert_form(ledger.statement(4), {})
        self.assert_form(ledger.correction(4), {})
        self.assert_form(ledger.pending(), {})

    def test_statements_without_late_entries(self):
        ledger = Ledger(row_of(PLAIN), Rule("oldest"))
        cases = [(0, {}), (1, {"a": 2}), (2, {}), (3, {"a": 1, "b": 2}), (7, {"a": -1})]
        for day, statement in cases:
            self.assert_form(ledger.close(day), statement)
            self.assert_form(ledger.statement(day), statement)
            self.assert_form(ledger.correction(day), {})
            self.assert_form(ledger.pending(), {})
        self.assertEqual(ledger.closed(), [day for day, _ in cases])

    def test_several_days_in_one_closing(self):
        ledger = Ledger(row_of(PLAIN), Rule("oldest"))
        self.assert_form(ledger.close(3), {"a": 3, "b": 2})
        self.assert_form(ledger.close(MOST), {"a": -1})

    def test_a_late_lot(self):
        ledger = Ledger(row_of(PLAIN), Rule("newest"))
        self.assert_form(ledger.close(1), {"a": 2})
        self.assertIsNone(ledger.enter(0, 5, ("buy", "z", 1)))
        self.assert_form(ledger.pending(), {"a": -1, "z": 1})
        self.assert_form(ledger.statement(1), {"a": 2})
        self.assert_form(ledger.close(2), {"a": -1, "z": 1})
        self.assert_form(ledger.correction(2), {"a": -1, "z": 1})
        self.assert_form(ledger.pending(), {})
        self.assert_form(ledger.close(9), {"b": 3, "a": -1})
        self.assert_form(ledger.correction(9), {})

    def test_a_statement_contains_its_days_and_its_correction(self):
        ledger = Ledger(row_of(PLAIN), Rule("oldest"))
        ledger.close(2)
        ledger.enter(1, 0, ("sell", "s", 1))
        ledger.enter(2, 3, ("sell", "w", 2))
        self.assert_form(ledger.pending(), {"a": 1})
        self.assert_form(ledger.close(3), {"a": 1, "b": 3})
        self.assert_form(ledger.correction(3), {"a": 1})

    def test_entries_on_days_that_are_not_closed_are_not_pending(self):
        ledger = Ledger(row_of(PLAIN), Rule("oldest"))
        ledger.enter(6, 0, ("sell", "w", 1))
        self.assert_form(ledger.pending(), {})
        ledger.close(5)
        ledger.enter(6, 1, ("sell", "x", 1))
        self.assert_form(ledger.pending(), {})
        ledger.enter(5, 1, ("sell", "y", 1))
        self.assert_form(ledger.pending(), {"a": 1})

    def test_an_entry_that_is_entered_and_taken_back_before_the_next_closing(self):
        ledger = Ledger(row_of(PLAIN), Rule("oldest"))
        ledger.close(4)
        ledger.enter(1, 0, ("sell", "s", 1))
        ledger.enter(1, 0, ("sell", "s", 2))
        self.assert_form(ledger.pending(), {})
        self.assert_form(ledger.close(5), {})

    def test_periods_that_reach_beyond_a_closed_day(self):
        ledger = Ledger(row_of(["buy a 3", "sell s 2"]), Rule("newest", period=5))
        self.assert_form(ledger.close(1), {"a": 2})
        ledger.enter(3, 0, ("buy", "b", 1))
        self.assert_form(ledger.pending(), {"a": -1, "b": 1})
        self.assert_form(ledger.close(2), {"a": -1, "b": 1})
        self.assert_form(ledger.correction(2), {"a": -1, "b": 1})

    def test_late_costs(self):
        ledger = Ledger(row_of(["buy a 4", "sell s 1"]), Rule("oldest"))
        ledger.close(1)
        ledger.enter(5, 0, ("late", "c", "a"))
        self.assert_form(ledger.pending(), {})
        self.assert_form(ledger.close(5), {"c": 0.25})
        self.assert_form(ledger.correction(5), {})
        ledger.enter(0, 1, ("late", "d", "a"))
        self.assert_form(ledger.pending(), {"d": 0.25})

    def test_shut(self):
        ledger = Ledger(row_of(PLAIN), Rule("oldest"))
        ledger.close(3)
        for day in (3, 2, 0):
            self.assert_error(Shut, {"day": 3}, lambda: ledger.close(day))
        ledger.close(4)
        self.assert_error(Shut, {"day": 4}, lambda: ledger.close(4))
        self.assertEqual(ledger.closed(), [3, 4])
        self.assert_form(ledger.statement(3), {"a": 3, "b": 2})

    def test_day_0(self):
        ledger = Ledger(row_of(["buy a 1", "sell s 1"]), Rule("oldest"))
        self.assert_form(ledger.close(0), {})
        self.assert_error(Shut, {"day": 0}, lambda: ledger.close(0))
        self.assertEqual(ledger.closed(), [0])
        ledger.enter(0, 1, ("sell", "t", 1))
        self.assert_error(NotEnough, {"day": 1, "number": 0, "missing": 1}, ledger.pending)

    def test_shut_comes_before_the_errors_of_a_costing(self):
        ledger = Ledger(row_of(PLAIN), Rule("oldest"))
        ledger.close(3)
        ledger.enter(0, 0, ("buy", "a", 1))
        self.assert_error(Shut, {"day": 3}, lambda: ledger.close(3))
        self.assert_error(NotEnough, {"day": 1, "number": 0, "missing": 1}, lambda: ledger.close(4))

    def test_a_closing_that_is_refused_and_the_same_day_closed_later(self):
        ledger = Ledger(row_of(PLAIN), Rule("oldest"))
        ledger.close(1)
        # An entry behind the day that is to be closed is wrong, too.
        ledger.enter(8, 0, ("back", "t", 9))
        for _ in range(2):
            self.assert_error(TooMany, {"day": 8, "number": 0, "left": 3}, lambda: ledger.close(3))
            self.assert_error(TooMany, {"day": 8, "number": 0, "left": 3}, ledger.pending)
            self.assertEqual(ledger.closed(), [1])
            for deed in (ledger.statement, ledger.correction):
                self.assert_error(NotClosed, {"day": 3}, lambda: deed(3))
        ledger.enter(8, 0, ("back", "t", 3))
        self.assert_form(ledger.close(3), {"a": 1, "b": 2})
        self.assertEqual(ledger.closed(), [1, 3])
        self.assert_form(ledger.correction(3), {})

    def test_nothing_is_pending_before_the_first_closing(self):
        ledger = Ledger(row_of(["sell s 2"]), Rule("oldest"))
        self.assert_form(ledger.pending(), {})
        self.assert_error(NotEnough, {"day": 0, "number": 0, "missing": 2}, lambda: ledger.close(0))
        self.assert_form(ledger.pending(), {})
        self.assertEqual(ledger.closed(), [])

    def test_days_that_were_not_closed(self):
        ledger = Ledger(row_of(PLAIN), Rule("oldest"))
        ledger.close(3)
        for day in (0, 2, 4, MOST):
            for deed in (ledger.statement, ledger.correction):
                self.assert_error(NotClosed, {"day": day}, lambda: deed(day))

    def test_bad_entries(self):
        ledger = Ledger(row_of(PLAIN), Rule("oldest"))
        for day, number, entry in [(-1, 0, ("buy", "z", 1)), (1, MOST + 1, ("buy", "z", 1)), (1, 0, ("buy", "z", 0)),
                                   (1, 0, ("late", "z", "z", "z")), (1, 0, None)]:
            self.assert_error(BadEntry, {"day": day, "number": number}, lambda: ledger.enter(day, number, entry))
        self.assert_form(ledger.close(1), {"a": 2})

    def test_the_book_is_copied_both_ways(self):
        book = row_of(PLAIN)
        ledger = Ledger(book, Rule("oldest"))
        book.remove(1, 0)
        book[0, 0] = ("buy", "a", 1)
        self.assert_form(ledger.close(1), {"a": 2})
        before = entries_of(book)
        ledger.enter(0, 3, ("buy", "z", 9))
        self.assertEqual(entries_of(book), before)
        self.assert_form(ledger.pending(), {})

    def test_returned_lists_are_new(self):
        ledger = Ledger(row_of(PLAIN), Rule("oldest"))
        ledger.close(1)
        ledger.closed().append(7)
        ledger.closed().clear()
        self.assertEqual(ledger.closed(), [1])
        self.assert_error(Shut, {"day": 1}, lambda: ledger.close(1))

    def test_statements_as_forms_are_not_changed_by_sums(self):
        ledger = Ledger(row_of(PLAIN), Rule("oldest"))
        first = ledger.close(1)
        first += Form.of("z")
        first -= Form.of("a")
        self.assert_form(ledger.statement(1), {"a": 2})

    def test_random_ledgers(self):
        chance = random.Random(32)
        seen = {"closings": 0, "corrections": 0, "errors": 0}
        for _ in range(150):
            rule = chance.choice(rules((0, 1, 4)))
            book = row_of(PLAIN + ["late c b", "sell u 2", "buy d 3", "back t 1"])
            ledger = Ledger(book, rule)
            stated, days = {}, []
            for _ in range(25):
                day, number = chance.randint(0, 12), chance.randint(0, 2)
                entry = chance.choice([("buy", chance.choice("abdz"), chance.randint(1, 9)),
                                       ("sell", chance.choice("stuvw"), chance.randint(1, 3)),
                                       ("back", chance.choice("stu"), 1), ("late", chance.choice("xy"), "a")])
                changed = book.joined(Book())
                changed[day, number] = entry
                try:
                    Costing(changed, rule)
                except CostError as wrong:
                    # Only an entry that stood there before can make the ledger whole again.
                    if (day, number) in book:
                        ledger.enter(day, number, entry)
                        if days:
                            self.assert_error(wrong.__class__, vars(wrong), ledger.pending)
                        self.assert_error(wrong.__class__, vars(wrong), lambda: ledger.close(20))
                        ledger.enter(day, number, book[day, number])
                        seen["errors"] += 1
                else:
                    ledger.enter(day, number, entry)
                    book = changed
                costs = Costing(book, rule)
                pending = added(table(costs.until(days[-1])), negated(stated)) if days else {}
                self.assert_form(ledger.pending(), pending)
                if chance.random() < 0.2 and days[-1:] != [12]:
                    days.append(chance.randint(days[-1] + 1 if days else 0, 12))
                    booked = table(costs.until(days[-1]))
                    self.assert_form(ledger.close(days[-1]), added(booked, negated(stated)))
                    self.assert_form(ledger.correction(days[-1]), pending)
                    self.assertEqual(ledger.closed(), days)
                    stated = added(*[table(ledger.statement(day)) for day in days])
                    self.assertEqual(stated, booked)
                    seen["closings"] += 1
                    seen["corrections"] += bool(pending)
        self.assertGreater(min(seen.values()), 100)


if __name__ == "__main__":
    unittest.main()

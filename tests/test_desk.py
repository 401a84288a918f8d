"""Points 3, 4 and 58 to 62: desks."""

import random
import unittest
from fractions import Fraction

from helping import BIG, MOST, Case, entries_of, ratio, row_of, rules, table, value_at
from lotcosts.books import Book
from lotcosts.costing import Costing
from lotcosts.desk import Desk
from lotcosts.errors import BadEntry, BadName, CostError, NameTaken, Negative, NoEntry, NoPrice, NotEnough, TooMany
from lotcosts.errors import UnknownName
from lotcosts.layers import Rule
from lotcosts.ratios import Ratio

PLAIN = ["buy a 3", "sell s 2", "buy b 4", "late c b", "sell t 3", "back s 1"]
PRICES = {"a": 2, "b": Ratio(5, 2), "c": 1}


class Stop(Exception):
    """An error that a block raises on its own."""


def desk_of(entries, rule=None, prices=None):
    desk = Desk(rule or Rule("oldest"))
    desk.all_of(row_of(entries))
    for name, price in (prices or {}).items():
        desk.tell(name, price)
    return desk


class DeskCase(Case):
    def assert_is(self, desk, book, rule, prices):
        """The desk has this book, rule and told prices, and answers as a costing of them does."""
        self.assertIs(desk.rule, rule)
        self.assertEqual(len(desk), len(book))
        costs = Costing(book, rule)
        for place in book.places():
            self.assertEqual(desk[place], book[place])
            self.assertIs(place in desk, True)
            self.assert_form(desk.booked(*place), table(costs.booked(*place)))
        for day in (0, 1, 3, 9, MOST):
            self.assert_form(desk.until(day), table(costs.until(day)))
        self.assert_form(desk.stock(), table(costs.stock()))
        self.assert_value(desk.value, costs.stock(), prices)
        for sale in book.sales():
            self.assert_form(desk.cost(sale), table(costs.cost(sale)))
            self.assert_value(lambda: desk.amount(sale), costs.cost(sale), prices)

    def assert_value(self, deed, form, prices):
        missing = [name for name in form.names() if name not in prices]
        if missing:
            self.assert_error(NoPrice, {"name": missing[0]}, deed)
        else:
            self.assert_ratio(deed(), value_at(form, prices))


class EntriesTest(DeskCase):
    def test_a_desk_without_entries(self):
        for rule in rules((0, 3)):
            desk = Desk(rule)
            self.assert_is(desk, Book(), rule, {})
            self.assertIs((0, 0) in desk, False)
            self.assert_error(NoEntry, {"day": 0, "number": 0}, lambda: desk[0, 0])
            self.assert_error(NoEntry, {"day": 0, "number": 0}, lambda: desk.booked(0, 0))
            self.assert_error(NoEntry, {"day": 2, "number": 1}, lambda: desk.remove(2, 1))
            for deed in (desk.cost, desk.amount):
                self.assert_error(UnknownName, {"name": "s"}, lambda: deed("s"))
            self.assert_ratio(desk.value(), 0)

    def test_entries_one_by_one(self):
        for rule in rules((0, 1, 3)):
            desk, book = Desk(rule), Book()
            for day, text in enumerate(PLAIN):
                entry = entries_of(row_of([text]))[0, 0]
                desk[day, 0] = book[day, 0] = entry
                self.assert_is(desk, book, rule, {})

    def test_entries_in_an_order_in_which_each_book_has_costs(self):
        desk = Desk(Rule("newest"))
        desk[9, 0] = ("buy", "a", 3)
        desk[4, 0] = ("buy", "b", 2)
        desk[6, 0] = ("sell", "s", 1)
        desk[5, 0] = ("buy", "c", 1)
        self.assert_form(desk.cost("s"), {"c": 1})

    def test_an_entry_that_is_replaced(self):
        desk, book = desk_of(PLAIN, prices=PRICES), row_of(PLAIN)
        desk[4, 0] = book[4, 0] = ("sell", "u", 1)
        self.assert_is(desk, book, desk.rule, PRICES)
        self.assert_error(UnknownName, {"name": "t"}, lambda: desk.cost("t"))
        self.assert_error(UnknownName, {"name": "t"}, lambda: desk.amount("t"))

    def test_an_entry_that_is_taken_out(self):
        desk, book = desk_of(PLAIN), row_of(PLAIN)
        self.assertIsNone(desk.remove(5, 0))
        book.remove(5, 0)
        self.assert_is(desk, book, desk.rule, {})
        self.assertIs((5, 0) in desk, False)
        self.assert_error(NoEntry, {"day": 5, "number": 0}, lambda: desk.remove(5, 0))
        self.assert_error(NoEntry, {"day": 5, "number": 0}, lambda: desk[5, 0])

    def test_all_entries_of_a_book(self):
        desk = Desk(Rule("oldest"))
        self.assertIsNone(desk.all_of(row_of(PLAIN)))
        self.assert_is(desk, row_of(PLAIN), desk.rule, {})
        more = Book()
        more[1, 0] = ("sell", "u", 1)
        more[1, 1] = ("sell", "s", 1)
        more[7, 7] = ("buy", "e", 2)
        desk.all_of(more)
        book = row_of(PLAIN)
        for place in more.places():
            book[place] = more[place]
        self.assert_is(desk, book, desk.rule, {})

    def test_entries_that_only_fit_together_at_once(self):
        # Each of these entries alone, behind the ones before it, leaves a book without costs.
        desk, book = desk_of(["buy a 1", "sell s 1"]), Book()
        book[0, 0] = ("buy", "b", 1)
        book[1, 0] = ("sell", "t", 3)
        book[0, 1] = ("buy", "c", 2)
        desk.all_of(book)
        self.assert_is(desk, book, desk.rule, {})
        desk.all_of(Book())
        self.assert_is(desk, book, desk.rule, {})

    def test_the_book_is_copied(self):
        book = row_of(PLAIN)
        desk = Desk(Rule("oldest"))
        desk.all_of(book)
        book.remove(5, 0)
        book[9, 9] = ("sell", "z", 1)
        self.assert_is(desk, row_of(PLAIN), desk.rule, {})
        before = entries_of(book)
        desk.remove(5, 0)
        self.assertEqual(entries_of(book), before)

    def test_returned_objects_are_new(self):
        desk = desk_of(PLAIN)
        desk.cost("s").names().clear()
        form = desk.stock()
        form += form
        self.assert_is(desk, row_of(PLAIN), desk.rule, {})


class RefusedTest(DeskCase):
    def assert_refused(self, error, attributes, deed, entries=PLAIN, rule=None, prices=PRICES):
        """The deed raises the error, and the desk stays as it is."""
        desk = desk_of(entries, rule, prices)
        rule = desk.rule
        self.assert_error(error, attributes, lambda: deed(desk))
        self.assert_is(desk, row_of(entries), rule, prices)

    def test_entries_that_are_none(self):
        for day, number, entry in [(-1, 0, ("buy", "z", 1)), (0, MOST + 1, ("buy", "z", 1)), (3, 4, ("buy", "z", 0)),
                                   (3, 4, ("give", "z", 1)), (3, 4, ("late", "z", 3)), (1, 0, None)]:
            def deed(desk):
                desk[day, number] = entry
            self.assert_refused(BadEntry, {"day": day, "number": number}, deed)

    def test_entries_without_costs(self):
        for day, number, entry, error, attributes in [
                (9, 0, ("buy", "a", 1), NameTaken, {"name": "a"}), (9, 0, ("buy", "c", 1), NameTaken, {"name": "c"}),
                (9, 0, ("sell", "s", 1), NameTaken, {"name": "s"}),
                (9, 0, ("sell", "u", 4), NotEnough, {"day": 9, "number": 0, "missing": 1}),
                (0, 9, ("sell", "u", 2), NotEnough, {"day": 1, "number": 0, "missing": 1}),
                (0, 0, ("buy", "a", 1), NotEnough, {"day": 1, "number": 0, "missing": 1}),
                (0, 0, ("back", "s", 1), UnknownName, {"name": "s"}),
                (5, 0, ("back", "s", 3), TooMany, {"day": 5, "number": 0, "left": 2}),
                (2, 0, ("buy", "d", 4), UnknownName, {"name": "b"})]:
            def deed(desk):
                desk[day, number] = entry
            self.assert_refused(error, attributes, deed)

    def test_entries_that_may_not_be_taken_out(self):
        for place, error, attributes in [((0, 0), NotEnough, {"day": 1, "number": 0, "missing": 2}),
                                         ((1, 0), UnknownName, {"name": "s"}), ((2, 0), UnknownName, {"name": "b"}),
                                         ((9, 0), NoEntry, {"day": 9, "number": 0})]:
            self.assert_refused(error, attributes, lambda desk: desk.remove(*place))

    def test_books_that_may_not_be_set(self):
        more = Book()
        more[0, 5] = ("buy", "z", 9)
        more[9, 0] = ("sell", "u", 99)
        self.assert_refused(NotEnough, {"day": 9, "number": 0, "missing": 87}, lambda desk: desk.all_of(more))
        taken = Book()
        taken[0, 5] = ("buy", "a", 9)
        taken[8, 0] = ("buy", "z", 9)
        self.assert_refused(NameTaken, {"name": "a"}, lambda desk: desk.all_of(taken))

    def test_rules_that_may_not_be_taken(self):
        # The sale is worked through before the lot it needs, except in a period.
        entries = ["sell s 1", "buy a 1"]
        self.assert_refused(NotEnough, {"day": 0, "number": 0, "missing": 1}, lambda desk: desk.follow(Rule("oldest")),
                            entries, Rule("oldest", period=2))
        self.assert_refused(NotEnough, {"day": 0, "number": 0, "missing": 1},
                            lambda desk: desk.follow(Rule("even", period=1)), entries, Rule("newest", period=2))

    def test_prices_that_may_not_be_told(self):
        for name in ("", "A", "abcdefghijklm", "a b", 3, None):
            for amount in (1, -1):
                self.assert_refused(BadName, {"name": name}, lambda desk: desk.tell(name, amount))
        for amount in (-1, Ratio(-1, BIG)):
            for name in ("a", "z"):
                self.assert_refused(Negative, {"name": name}, lambda desk: desk.tell(name, amount))

    def test_questions_without_an_answer_change_nothing(self):
        for deed in (lambda desk: desk.cost("z"), lambda desk: desk.amount("z"), lambda desk: desk.cost("a")):
            with self.assertRaises(UnknownName):
                deed(desk_of(PLAIN))
        self.assert_refused(UnknownName, {"name": "z"}, lambda desk: desk.amount("z"))
        self.assert_refused(NoEntry, {"day": 0, "number": 1}, lambda desk: desk[0, 1])
        self.assert_refused(NoEntry, {"day": 0, "number": 1}, lambda desk: desk.booked(0, 1))


class RuleTest(DeskCase):
    def test_every_rule(self):
        desk = desk_of(PLAIN, prices=PRICES)
        for rule in rules((0, 1, 2, 9)):
            self.assertIsNone(desk.follow(rule))
            self.assert_is(desk, row_of(PLAIN), rule, PRICES)

    def test_the_rule_is_a_property(self):
        self.assertIs(type(Desk.rule), property)
        desk = Desk(Rule("even"))
        self.assertEqual(desk.rule.take, "even")


class PricesTest(DeskCase):
    def test_told_prices(self):
        desk = desk_of(PLAIN)
        self.assertIsNone(desk.tell("a", 2))
        self.assert_is(desk, row_of(PLAIN), desk.rule, {"a": 2})
        desk.tell("b", Ratio(5, 2))
        desk.tell("c", 0)
        self.assert_is(desk, row_of(PLAIN), desk.rule, {"a": 2, "b": Ratio(5, 2), "c": 0})
        # s keeps 1 of a; t has 1 of a and 2 of b, which bear half of c.
        self.assert_ratio(desk.amount("s"), 2)
        self.assert_ratio(desk.amount("t"), 7)
        self.assert_ratio(desk.value(), 7)

    def test_a_price_that_is_told_again(self):
        desk = desk_of(PLAIN, prices=PRICES)
        for price in (7, Ratio(1, 3), 0, BIG, Ratio(BIG, 2), 2):
            desk.tell("a", price)
            self.assert_is(desk, row_of(PLAIN), desk.rule, {**PRICES, "a": price})

    def test_prices_of_names_that_no_entry_has(self):
        desk = Desk(Rule("oldest"))
        for name in ("zzz", "abcdefghijkl", "s", "a"):
            desk.tell(name, 3)
        desk.all_of(row_of(["buy a 3", "sell s 2"]))
        self.assert_ratio(desk.amount("s"), 6)
        self.assert_ratio(desk.value(), 3)

    def test_the_first_name_without_a_price(self):
        desk = desk_of(["buy b 1", "buy a 1", "late c a", "sell s 2"])
        for name, price in (("a", 1), ("b", 2), ("c", 3)):
            self.assert_error(NoPrice, {"name": name}, lambda: desk.amount("s"))
            self.assert_ratio(desk.value(), 0)
            desk.tell(name, price)
        self.assert_ratio(desk.amount("s"), 6)

    def test_a_price_that_is_not_needed_need_not_be_told(self):
        desk = desk_of(["buy a 1", "buy b 1", "sell s 1"])
        desk.tell("a", 4)
        self.assert_ratio(desk.amount("s"), 4)
        self.assert_error(NoPrice, {"name": "b"}, desk.value)

    def test_unknown_sales_come_before_prices(self):
        self.assert_error(UnknownName, {"name": "z"}, lambda: desk_of(PLAIN).amount("z"))
        self.assert_error(UnknownName, {"name": "a"}, lambda: desk_of(PLAIN, prices=PRICES).amount("a"))

    def test_a_bad_name_comes_before_a_price_below_0(self):
        self.assert_error(BadName, {"name": "A"}, lambda: Desk(Rule("oldest")).tell("A", -1))


def unmade(desk):
    """Change all that a desk has."""
    desk.follow(Rule("newest", place="top", period=2))
    desk.tell("a", 99)
    desk.tell("z", 1)
    desk.remove(5, 0)
    desk[1, 0] = ("sell", "u", 1)
    more = Book()
    more[8, 0] = ("buy", "e", 1)
    desk.all_of(more)
    return len(desk)


class TrialTest(DeskCase):
    def setUp(self):
        self.rule = Rule("oldest")
        self.desk = desk_of(PLAIN, self.rule, PRICES)

    def assert_as_before(self):
        self.assert_is(self.desk, row_of(PLAIN), self.rule, PRICES)
        self.assert_error(NoEntry, {"day": 8, "number": 0}, lambda: self.desk[8, 0])

    def test_a_trial_gives_everything_back(self):
        with self.desk.trial():
            unmade(self.desk)
            self.assertEqual([self.desk.rule.take, (8, 0) in self.desk], ["newest", True])
            self.assert_form(self.desk.cost("u"), {"a": 1})
        self.assert_as_before()

    def test_the_desk_has_one_name_more_in_a_trial(self):
        with self.desk.trial() as inner:
            inner[8, 0] = ("buy", "e", 1)
            self.assertIs((8, 0) in self.desk, True)
            self.desk[8, 0] = ("buy", "f", 1)
            self.assertEqual(inner[8, 0], ("buy", "f", 1))
        self.assertIs((8, 0) in inner, False)
        self.assert_as_before()

    def test_a_trial_that_ends_by_an_error(self):
        for error in (Stop, ValueError, KeyError, CostError):
            with self.assertRaises(error):
                with self.desk.trial():
                    unmade(self.desk)
                    raise error()
            self.assert_as_before()
        with self.assertRaises(NotEnough):
            with self.desk.trial():
                unmade(self.desk)
                self.desk[9, 0] = ("sell", "w", MOST)
        self.assert_as_before()

    def test_a_refused_deed_in_a_trial(self):
        with self.desk.trial():
            self.desk.tell("a", 9)
            self.assert_error(NameTaken, {"name": "a"}, lambda: self.desk.all_of(row_of(["buy a 1"], first=20)))
            self.assert_is(self.desk, row_of(PLAIN), self.rule, {**PRICES, "a": 9})
        self.assert_as_before()

    def test_nested_trials(self):
        with self.desk.trial():
            self.desk.tell("d", 5)
            self.desk.remove(5, 0)
            with self.desk.trial():
                self.desk.follow(Rule("even"))
                with self.assertRaises(Stop):
                    with self.desk.trial():
                        unmade_from_here(self.desk)
                        raise Stop()
                self.assertEqual([self.desk.rule.take, len(self.desk)], ["even", 5])
            self.assert_is(self.desk, row_of(PLAIN[:5]), self.rule, {**PRICES, "d": 5})
        self.assert_as_before()

    def test_trials_one_after_another(self):
        for _ in range(3):
            first, second = self.desk.trial(), self.desk.trial()
            with first:
                self.desk.tell("a", 1)
            with second:
                self.desk.remove(5, 0)
            self.assert_as_before()

    def test_a_trial_begins_when_its_block_begins(self):
        trial = self.desk.trial()
        self.desk.tell("e", 4)
        self.desk[8, 0] = ("buy", "e", 1)
        self.desk.follow(Rule("even"))
        with trial:
            self.desk.remove(8, 0)
            self.desk.tell("e", 5)
        book = row_of(PLAIN)
        book[8, 0] = ("buy", "e", 1)
        self.assert_is(self.desk, book, self.desk.rule, {**PRICES, "e": 4})
        self.assertEqual(self.desk.rule.take, "even")

    def test_a_price_that_is_taken_away(self):
        desk = desk_of(PLAIN)
        with desk.trial():
            for name, price in PRICES.items():
                desk.tell(name, price)
            self.assert_ratio(desk.amount("s"), 2)
        self.assert_error(NoPrice, {"name": "a"}, lambda: desk.amount("s"))
        self.assert_is(desk, row_of(PLAIN), desk.rule, {})

    def test_tried(self):
        self.assertEqual(self.desk.tried(unmade), 6)
        self.assert_as_before()
        self.assertIsNone(self.desk.tried(lambda desk: desk.remove(5, 0)))
        self.assertIs(self.desk.tried(lambda desk: desk), self.desk)
        self.assertEqual(self.desk.tried(lambda desk: desk.tried(unmade) + len(desk)), 12)
        self.assert_as_before()

    def test_tried_with_the_outer_name(self):
        self.assertEqual(self.desk.tried(lambda _: unmade(self.desk)), 6)
        self.assert_as_before()

    def test_an_error_of_a_deed_leaves_tried(self):
        def deed(desk):
            unmade(desk)
            raise Stop()
        with self.assertRaises(Stop):
            self.desk.tried(deed)
        self.assert_as_before()
        self.assert_error(NoEntry, {"day": 77, "number": 0}, lambda: self.desk.tried(lambda desk: desk.remove(77, 0)))
        self.assert_as_before()


def unmade_from_here(desk):
    desk.tell("a", 77)
    desk.follow(Rule("newest"))
    desk[9, 0] = ("buy", "f", 4)


class RandomTest(DeskCase):
    def test_random_deeds(self):
        chance = random.Random(61)
        seen = {True: 0, False: 0}
        for _ in range(40):
            rule = chance.choice(rules((0, 2)))
            desk, state = Desk(rule), (Book(), rule, {})
            for _ in range(40):
                after, deed = self.some_deed(chance, state)
                try:
                    Costing(after[0], after[1])
                except CostError as wrong:
                    self.assert_error(wrong.__class__, vars(wrong), lambda: deed(desk))
                    seen[False] += 1
                else:
                    if chance.random() < 0.3:
                        desk.tried(deed)
                    else:
                        deed(desk)
                        state = after
                    seen[True] += 1
                self.assert_is(desk, *state)
        self.assertGreater(min(seen.values()), 150)

    def some_deed(self, chance, state):
        """A state of a desk after some deed, and the deed."""
        book, rule, prices = state[0].joined(Book()), state[1], dict(state[2])
        place = chance.randint(0, 7), chance.randint(0, 1)
        word = chance.choice(["set", "set", "set", "remove", "all", "follow", "tell"])
        if word == "set":
            entry = self.some_entry(chance)
            book[place] = entry
            return (book, rule, prices), lambda desk: desk.__setitem__(place, entry)
        if word == "remove" and place in book:
            book.remove(*place)
            return (book, rule, prices), lambda desk: desk.remove(*place)
        if word == "all":
            more = Book()
            for _ in range(3):
                more[chance.randint(0, 7), chance.randint(0, 1)] = self.some_entry(chance)
            for at in more.places():
                book[at] = more[at]
            return (book, rule, prices), lambda desk: desk.all_of(more)
        if word == "follow":
            other = chance.choice(rules((0, 1, 3)))
            return (book, other, prices), lambda desk: desk.follow(other)
        name, price = chance.choice("abcdxy"), ratio(Fraction(chance.randint(0, 9), chance.randint(1, 3)))
        prices[name] = price
        return (book, rule, prices), lambda desk: desk.tell(name, price)

    def some_entry(self, chance):
        return chance.choice([("buy", chance.choice("abcd"), chance.randint(1, 9)),
                              ("buy", chance.choice("abcd"), chance.randint(1, 9)),
                              ("sell", chance.choice("stu"), chance.randint(1, 4)),
                              ("back", chance.choice("stu"), 1), ("late", chance.choice("xy"), chance.choice("ab"))])


if __name__ == "__main__":
    unittest.main()

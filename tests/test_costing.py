"""Points 3, 4, 18 and 24 to 28: costings."""

import random
import unittest
from fractions import Fraction
from itertools import groupby, product

from lotcosts.books import Book
from lotcosts.costing import Costing
from lotcosts.errors import NameTaken, NoEntry, NotEnough, TooMany, UnknownName
from lotcosts.forms import Form
from lotcosts.layers import Rule
from lotcosts.ratios import Ratio

MOST = 1000000
TAKES = ("oldest", "newest", "even")
PLACES = ("own", "top", "bottom")
RULES = [(take, place, period) for take in TAKES for place in PLACES for period in (0, 1, 2, 7)]


def book_of(rows):
    """A book with the entries (day, number, ..)."""
    book = Book()
    for day, number, *entry in rows:
        book[day, number] = tuple(entry)
    return book


def row_of(entries):
    """A book with one entry on each day, told as words, from day 0 on."""
    book = Book()
    for day, text in enumerate(entries):
        kind, name, last = text.split()
        book[day, 0] = (kind, name, last if kind == "late" else int(last))
    return book


def plain(parts):
    return [(lot, Fraction(amount.top, amount.bottom)) for lot, amount in parts]


def table(form):
    return {name: Fraction(form.share(name).top, form.share(name).bottom) for name in form.names()}


def whole(text):
    """The parts that a text such as "a3 b1/2" tells."""
    return [(word[0], Fraction(word[1:])) for word in text.split()]


def negated(shares):
    return {name: -share for name, share in shares.items()}


def added(tables):
    """The sum of tables of shares, without zeros."""
    total = {}
    for shares in tables:
        for name, share in shares.items():
            total[name] = total.get(name, 0) + share
    return {name: share for name, share in total.items() if share}


class Wrong(Exception):
    """What a costing by hand says is wrong: an error and its attributes."""


class Units:
    """The stock under a rule that takes the oldest or the newest units, unit by unit."""

    def __init__(self, take, place):
        self.take, self.place, self.units, self.lots = take, place, [], []

    def bring(self, lot, many):
        self.lots.append(lot)
        self.units += [lot] * many

    def many(self):
        return len(self.units)

    def sell(self, many):
        return [self.units.pop(0 if self.take == "oldest" else -1) for _ in range(many)]

    def bring_back(self, sold, many):
        back = [sold.pop() for _ in range(many)]
        for lot in back:
            later = [at for at, unit in enumerate(self.units) if self.lots.index(unit) > self.lots.index(lot)]
            if self.place == "top":
                self.units.append(lot)
            elif self.place == "bottom":
                self.units.insert(0, lot)
            elif lot in self.units:
                self.units.insert(self.units.index(lot), lot)
            else:
                self.units.insert(min(later + [len(self.units)]), lot)
        return back

    def left_of(self, sold):
        return len(sold)

    @staticmethod
    def amounts(units):
        return {lot: Fraction(units.count(lot)) for lot in units}

    @staticmethod
    def parts(units):
        return [(lot, Fraction(len(list(run)))) for lot, run in groupby(units)]


class Mixed:
    """The stock under a rule that takes evenly: the amount of each lot."""

    def __init__(self):
        self.units = {}

    def bring(self, lot, many):
        self.units[lot] = Fraction(many)

    def many(self):
        return sum(self.units.values())

    def sell(self, many):
        share = Fraction(many) / self.many()
        taken = {lot: amount * share for lot, amount in self.units.items()}
        for lot in taken:
            self.units[lot] -= taken[lot]
        return taken

    def bring_back(self, sold, many):
        share = Fraction(many) / sum(sold.values())
        back = {lot: amount * share for lot, amount in sold.items()}
        for lot in back:
            sold[lot] -= back[lot]
            self.units[lot] += back[lot]
        return back

    def left_of(self, sold):
        return sum(sold.values())

    @staticmethod
    def amounts(units):
        return dict(units)

    @staticmethod
    def parts(units):
        return [(lot, amount) for lot, amount in units.items() if amount]


class ByHand:
    """A costing that is worked out on its own, without layers and forms."""

    def __init__(self, book, take, place, period):
        self.goods = Mixed() if take == "even" else Units(take, place)
        self.bought, self.late, self.sold, self.booked = {}, {}, {}, {}
        days = max([day for day, _ in book.places()], default=0) + 1
        for start in range(0, days, period or 1):
            inside = [at for at in book.places() if start <= at[0] < start + (period or 1)]
            if period:
                inside = [at for at in inside if book[at][0] == "buy"] + [at for at in inside if book[at][0] != "buy"]
            for at in inside:
                kind, name, last = book[at]
                work = {"buy": self.buy, "sell": self.sell, "back": self.bring_back, "late": self.charge}[kind]
                self.booked[at] = work(at, name, last)

    def check(self, holds, *told):
        if not holds:
            raise Wrong(*told)

    def cost(self, units):
        shares = dict(self.goods.amounts(units))
        for name, lot in self.late.items():
            shares[name] = shares.get(lot, 0) / Fraction(self.bought[lot])
        return added([shares])

    def all_sold(self):
        return added([self.cost(units) for units in self.sold.values()])

    def buy(self, at, lot, units):
        self.check(lot not in self.bought and lot not in self.late, NameTaken, lot)
        self.bought[lot] = units
        self.goods.bring(lot, units)
        return {}

    def sell(self, at, sale, units):
        self.check(sale not in self.sold, NameTaken, sale)
        self.check(units <= self.goods.many(), NotEnough, *at, units - self.goods.many())
        self.sold[sale] = self.goods.sell(units)
        return self.cost(self.sold[sale])

    def bring_back(self, at, sale, units):
        self.check(sale in self.sold, UnknownName, sale)
        left = self.goods.left_of(self.sold[sale])
        self.check(units <= left, TooMany, *at, left)
        return added([{}, negated(self.cost(self.goods.bring_back(self.sold[sale], units)))])

    def charge(self, at, cost, lot):
        self.check(cost not in self.bought and cost not in self.late, NameTaken, cost)
        self.check(lot in self.bought, UnknownName, lot)
        before = self.all_sold()
        self.late[cost] = lot
        return added([self.all_sold(), negated(before)])


class CostingCase(unittest.TestCase):
    def assert_form(self, form, expected):
        self.assertIs(type(form), Form)
        self.assertEqual(table(form), expected)

    def assert_parts(self, parts, expected):
        """The value is a list of tuples (name, ratio), the expected ones."""
        self.assertIs(type(parts), list)
        for part in parts:
            self.assertIs(type(part), tuple)
            self.assertIs(type(part[1]), Ratio)
        self.assertEqual(plain(parts), expected)

    def assert_error(self, error, attributes, deed):
        """The error is raised, with attributes of just these values and kinds."""
        with self.assertRaises(error) as caught:
            deed()
        self.assertIs(type(caught.exception), error)
        self.assertEqual(vars(caught.exception), attributes)
        for name in attributes:
            self.assertIs(type(getattr(caught.exception, name)), type(attributes[name]))

    def assert_wrong(self, error, attributes, entries, rules=RULES):
        """A book with one entry on each day has no costs, and stays as it is."""
        for take, place, period in rules:
            book = row_of(entries)
            before = {at: book[at] for at in book.places()}
            self.assert_error(error, attributes, lambda: Costing(book, Rule(take, place=place, period=period)))
            self.assertEqual({at: book[at] for at in book.places()}, before)


class WrongBooksTest(CostingCase):
    # Without periods, as these books would be worked through in another order.
    PLAIN = [(take, place, 0) for take in TAKES for place in PLACES]

    def test_a_lot_that_is_named_like_a_lot(self):
        self.assert_wrong(NameTaken, {"name": "a"}, ["buy a 1", "buy b 1", "buy a 2"])

    def test_a_lot_that_is_named_like_a_late_cost(self):
        self.assert_wrong(NameTaken, {"name": "c"}, ["buy a 1", "late c a", "buy c 1"], self.PLAIN)

    def test_a_late_cost_that_is_named_like_a_lot(self):
        self.assert_wrong(NameTaken, {"name": "b"}, ["buy a 1", "buy b 1", "late b a"])
        self.assert_wrong(NameTaken, {"name": "a"}, ["buy a 1", "late a a"])

    def test_a_late_cost_that_is_named_like_a_late_cost(self):
        self.assert_wrong(NameTaken, {"name": "c"}, ["buy a 1", "buy b 1", "late c a", "late c b"])
        self.assert_wrong(NameTaken, {"name": "c"}, ["buy a 1", "late c a", "late c a"])

    def test_a_late_cost_of_no_lot(self):
        self.assert_wrong(UnknownName, {"name": "b"}, ["buy a 1", "late c b"])
        self.assert_wrong(UnknownName, {"name": "c"}, ["late c c"])
        self.assert_wrong(UnknownName, {"name": "s"}, ["buy a 1", "sell s 1", "late c s"])
        self.assert_wrong(UnknownName, {"name": "c"}, ["buy a 1", "late c a", "late d c"])
        self.assert_wrong(UnknownName, {"name": "b"}, ["late c b", "buy b 1"], self.PLAIN)

    def test_name_taken_comes_before_unknown_name(self):
        self.assert_wrong(NameTaken, {"name": "a"}, ["buy a 1", "late a b"])
        self.assert_wrong(NameTaken, {"name": "c"}, ["buy a 1", "late c a", "late c z"])

    def test_a_sale_that_is_named_like_a_sale(self):
        self.assert_wrong(NameTaken, {"name": "s"}, ["buy a 9", "sell s 1", "sell s 1"])
        self.assert_wrong(NameTaken, {"name": "s"}, ["buy a 9", "sell s 1", "back s 1", "sell s 1"])

    def test_name_taken_comes_before_not_enough(self):
        self.assert_wrong(NameTaken, {"name": "s"}, ["buy a 2", "sell s 1", "sell s 5"])

    def test_a_sale_of_more_than_there_is(self):
        self.assert_wrong(NotEnough, {"day": 2, "number": 0, "missing": 1}, ["buy a 3", "buy b 5", "sell s 9"])
        self.assert_wrong(NotEnough, {"day": 0, "number": 0, "missing": MOST}, [f"sell s {MOST}"])
        self.assert_wrong(NotEnough, {"day": 3, "number": 0, "missing": 4},
                          ["buy a 3", "buy b 5", "sell s 7", "sell t 5"])
        self.assert_wrong(NotEnough, {"day": 4, "number": 0, "missing": 1},
                          ["buy a 3", "sell s 3", "back s 2", "sell t 1", "sell u 2"])
        self.assert_wrong(NotEnough, {"day": 0, "number": 0, "missing": 1}, ["sell s 1", "buy a 1"], self.PLAIN)

    def test_a_return_of_no_sale(self):
        self.assert_wrong(UnknownName, {"name": "t"}, ["buy a 3", "sell s 1", "back t 1"])
        self.assert_wrong(UnknownName, {"name": "a"}, ["buy a 3", "back a 1"])
        self.assert_wrong(UnknownName, {"name": "s"}, ["buy a 3", "back s 1", "sell s 1"])

    def test_a_return_of_more_than_the_sale_has(self):
        self.assert_wrong(TooMany, {"day": 3, "number": 0, "left": 4}, ["buy a 3", "buy b 5", "sell s 4", "back s 5"])
        self.assert_wrong(TooMany, {"day": 4, "number": 0, "left": 1},
                          ["buy a 3", "buy b 5", "sell s 4", "back s 3", f"back s {MOST}"])
        self.assert_wrong(TooMany, {"day": 3, "number": 0, "left": 0}, ["buy a 3", "sell s 3", "back s 3", "back s 1"])

    def test_the_first_wrong_entry_counts(self):
        self.assert_wrong(UnknownName, {"name": "t"}, ["buy a 3", "back t 1", "sell s 9", "buy a 1"], self.PLAIN)
        self.assert_wrong(NotEnough, {"day": 1, "number": 0, "missing": 6}, ["buy a 3", "sell s 9", "back t 1"])

    def test_the_order_of_the_periods_counts(self):
        book = book_of([(0, 5, "sell", "s", 9), (1, 7, "buy", "a", 1), (2, 0, "buy", "a", 3)])
        rule = Rule("oldest", period=3)
        self.assert_error(NameTaken, {"name": "a"}, lambda: Costing(book, rule))
        rule = Rule("oldest", period=2)
        self.assert_error(NotEnough, {"day": 0, "number": 5, "missing": 8}, lambda: Costing(book, rule))

    def test_missing_and_left_are_integers_also_if_amounts_are_not(self):
        rows = ["buy a 3", "buy b 5", "sell s 4", "buy c 7", "sell t 3", "back s 1"]
        rule = [("even", "own", 0)]
        self.assert_wrong(NotEnough, {"day": 6, "number": 0, "missing": 2}, rows + ["sell u 11"], rule)
        self.assert_wrong(TooMany, {"day": 6, "number": 0, "left": 3}, rows + ["back s 4"], rule)

    def test_a_sale_may_be_named_like_a_lot_or_a_late_cost(self):
        book = row_of(["buy a 3", "late c a", "sell a 1", "sell c 1", "back a 1"])
        costs = Costing(book, Rule("oldest"))
        self.assert_form(costs.cost("a"), {})
        self.assert_form(costs.cost("c"), {"a": 1, "c": Fraction(1, 3)})


class CostsTest(CostingCase):
    def test_a_book_without_entries(self):
        for take, place, period in RULES:
            costs = Costing(Book(), Rule(take, place=place, period=period))
            self.assert_parts(costs.layers(), [])
            for form in (costs.stock(), costs.paid(), costs.until(0), costs.until(MOST)):
                self.assert_form(form, {})
            self.assert_error(UnknownName, {"name": "s"}, lambda: costs.cost("s"))
            self.assert_error(UnknownName, {"name": "s"}, lambda: costs.parts("s"))
            self.assert_error(NoEntry, {"day": 0, "number": 0}, lambda: costs.booked(0, 0))

    def test_oldest_newest_and_even(self):
        rows = ["buy a 3", "buy b 5", "sell s 4"]
        cases = [("oldest", "a3 b1", "b4"), ("newest", "b4", "a3 b1"), ("even", "a3/2 b5/2", "a3/2 b5/2")]
        for take, cost, left in cases:
            costs = Costing(row_of(rows), Rule(take))
            self.assert_form(costs.cost("s"), dict(whole(cost)))
            self.assert_parts(costs.parts("s"), whole(cost))
            self.assert_parts(costs.layers(), whole(left))
            self.assert_form(costs.stock(), dict(whole(left)))
            self.assert_form(costs.paid(), {"a": 3, "b": 5})

    def test_parts_stand_in_the_order_in_which_they_were_taken(self):
        rows = ["buy a 3", "buy b 5", "sell s 7", "back s 1"]
        self.assert_parts(Costing(row_of(rows), Rule("oldest")).parts("s"), whole("a3 b3"))
        self.assert_parts(Costing(row_of(rows), Rule("newest")).parts("s"), whole("b5 a1"))
        self.assert_parts(Costing(row_of(rows), Rule("even")).parts("s"), whole("a9/4 b15/4"))

    def test_all_units_and_one_more(self):
        for take in TAKES:
            costs = Costing(row_of(["buy a 3", "buy b 5", "sell s 8"]), Rule(take))
            self.assert_form(costs.cost("s"), {"a": 3, "b": 5})
            self.assert_parts(costs.layers(), [])
            self.assert_form(costs.stock(), {})
        cases = [("oldest", 3, "a3"), ("oldest", 4, "a3 b1"), ("newest", 5, "b5"), ("newest", 6, "b5 a1")]
        for take, units, cost in cases:
            costs = Costing(row_of(["buy a 3", "buy b 5", f"sell s {units}"]), Rule(take))
            self.assert_parts(costs.parts("s"), whole(cost))

    def test_one_unit_and_a_million(self):
        costs = Costing(row_of([f"buy a {MOST}", "buy b 1", f"sell s {MOST}"]), Rule("oldest"))
        self.assert_form(costs.cost("s"), {"a": MOST})
        costs = Costing(row_of([f"buy a {MOST}", "buy b 1", f"sell s {MOST}"]), Rule("newest"))
        self.assert_form(costs.cost("s"), {"a": MOST - 1, "b": 1})
        costs = Costing(row_of([f"buy a {MOST}", "buy b 1", f"sell s {MOST}"]), Rule("even"))
        self.assert_form(costs.cost("s"), {"a": Fraction(MOST ** 2, MOST + 1), "b": Fraction(MOST, MOST + 1)})
        costs = Costing(row_of([f"buy a {MOST}", "late c a", "sell s 1"]), Rule("even"))
        self.assert_form(costs.cost("s"), {"a": 1, "c": Fraction(1, MOST)})

    def test_a_lot_whose_layer_is_gone_when_its_units_come_back(self):
        rows = ["buy a 2", "buy b 2", "buy d 2", "sell s 3", "sell t 1", "back s 3"]
        self.assert_parts(Costing(row_of(rows), Rule("oldest")).layers(), whole("a2 b1 d2"))
        self.assert_parts(Costing(row_of(rows), Rule("oldest", place="top")).layers(), whole("d2 b1 a2"))
        self.assert_parts(Costing(row_of(rows), Rule("oldest", place="bottom")).layers(), whole("a2 b1 d2"))
        self.assert_parts(Costing(row_of(rows), Rule("newest")).layers(), whole("a2 b1 d2"))
        self.assert_parts(Costing(row_of(rows), Rule("newest", place="top")).layers(), whole("a2 b1 d2"))
        self.assert_parts(Costing(row_of(rows), Rule("newest", place="bottom")).layers(), whole("d2 b1 a2"))

    def test_an_own_layer_lies_below_those_of_lots_that_were_bought_later(self):
        rows = ["buy a 2", "sell s 2", "buy b 2", "buy d 2", "back s 1"]
        for take in TAKES:
            self.assert_parts(Costing(row_of(rows), Rule(take)).layers(), whole("a1 b2 d2"))

    def test_under_even_all_units_go_and_come_back(self):
        rows = ["buy a 2", "buy b 4", "sell s 6", "buy d 3", "back s 3", "sell t 6"]
        for place in PLACES:
            costs = Costing(row_of(rows), Rule("even", place=place))
            self.assert_parts(costs.parts("s"), whole("a1 b2"))
            self.assert_parts(costs.parts("t"), whole("a1 b2 d3"))
            self.assert_parts(costs.layers(), [])

    def test_all_units_of_a_sale_brought_back(self):
        for take, place, period in RULES:
            rule = Rule(take, place=place, period=period)
            costs = Costing(row_of(["buy a 2", "buy b 3", "sell s 4", "back s 1", "back s 3"]), rule)
            self.assert_form(costs.cost("s"), {})
            self.assert_parts(costs.parts("s"), [])
            self.assert_form(costs.stock(), {"a": 2, "b": 3})
            self.assert_form(costs.until(4), {})

    def test_two_layers_of_one_lot_that_come_to_lie_on_each_other(self):
        rows = ["buy a 5", "buy b 1", "sell s 1", "sell t 1", "back s 1", "back t 1"]
        costs = Costing(row_of(rows), Rule("oldest", place="top"))
        self.assert_parts(costs.layers(), whole("a3 b1 a2"))
        costs = Costing(row_of(rows), Rule("oldest", place="bottom"))
        self.assert_parts(costs.layers(), whole("a5 b1"))

    def test_a_sale_may_have_several_parts_of_one_lot(self):
        rows = ["buy a 5", "buy b 1", "sell s 2", "back s 2", "sell t 6", "late c a"]
        costs = Costing(row_of(rows), Rule("oldest", place="top"))
        self.assert_parts(costs.parts("t"), whole("a3 b1 a2"))
        self.assert_form(costs.cost("t"), {"a": 5, "b": 1, "c": 1})
        self.assert_parts(costs.layers(), [])

    def test_a_late_cost_is_borne_by_all_units_of_its_lot(self):
        rows = ["buy a 4", "late c a", "sell s 1", "buy b 2", "late d a", "sell t 4", "late e b",
                "back t 3", "late f a"]
        costs = Costing(row_of(rows), Rule("oldest"))
        quarter, half = Fraction(1, 4), Fraction(1, 2)
        expected = [
            {}, {}, {"a": 1, "c": quarter}, {}, {"d": quarter},
            {"a": 3, "c": 3 * quarter, "d": 3 * quarter, "b": 1}, {"e": half},
            {"b": -1, "e": -half, "a": -2, "c": -half, "d": -half}, {"f": half},
        ]
        for day, shares in enumerate(expected):
            self.assert_form(costs.booked(day, 0), shares)
        self.assert_form(costs.cost("s"), {"a": 1, "c": quarter, "d": quarter, "f": quarter})
        self.assert_form(costs.cost("t"), {"a": 1, "c": quarter, "d": quarter, "f": quarter})
        self.assert_form(costs.stock(), {"a": 2, "b": 2, "c": half, "d": half, "e": 1, "f": half})
        self.assert_form(costs.paid(), {"a": 4, "b": 2, "c": 1, "d": 1, "e": 1, "f": 1})

    def test_a_late_cost_when_no_unit_or_every_unit_is_sold(self):
        for take, place, period in RULES:
            rule = Rule(take, place=place, period=period)
            costs = Costing(row_of(["buy a 3", "late c a", "sell s 3", "late d a", "back s 3", "late e a"]), rule)
            self.assert_form(costs.booked(1, 0), {})
            self.assert_form(costs.booked(3, 0), {"d": 1})
            self.assert_form(costs.booked(5, 0), {})
            self.assert_form(costs.stock(), {"a": 3, "c": 1, "d": 1, "e": 1})

    def test_a_sale_that_stands_before_its_lot_in_one_period(self):
        book = book_of([(3, 1, "sell", "s", 2), (4, 0, "buy", "a", 3), (7, 0, "buy", "b", 1)])
        costs = Costing(book, Rule("newest", period=5))
        self.assert_form(costs.cost("s"), {"a": 2})
        self.assert_form(costs.booked(3, 1), {"a": 2})
        costs = Costing(book, Rule("newest", period=8))
        self.assert_form(costs.cost("s"), {"b": 1, "a": 1})
        for period in (0, 1, 2, 4):
            self.assert_error(NotEnough, {"day": 3, "number": 1, "missing": 2},
                              lambda: Costing(book, Rule("newest", period=period)))

    def test_a_late_cost_that_stands_before_its_lot_in_one_period(self):
        book = book_of([(3, 0, "late", "c", "a"), (3, 1, "sell", "s", 2), (4, 0, "buy", "a", 3)])
        costs = Costing(book, Rule("oldest", period=5))
        self.assert_form(costs.booked(3, 0), {})
        self.assert_form(costs.cost("s"), {"a": 2, "c": Fraction(2, 3)})
        self.assert_error(UnknownName, {"name": "a"}, lambda: Costing(book, Rule("oldest", period=4)))

    def test_until_goes_by_days_whatever_the_period_is(self):
        book = book_of([(1, 0, "sell", "s", 1), (2, 0, "late", "c", "a"), (2, 1, "back", "s", 1),
                        (3, 0, "sell", "t", 2), (6, 0, "buy", "a", 2)])
        costs = Costing(book, Rule("oldest", period=7))
        self.assert_form(costs.until(-1), {})
        self.assert_form(costs.until(0), {})
        self.assert_form(costs.until(1), {"a": 1})
        self.assert_form(costs.until(2), {})
        for day in (3, 5, 6, MOST, 10 ** 50):
            self.assert_form(costs.until(day), {"a": 2, "c": 1})


class AskingTest(CostingCase):
    def some_costs(self, book=None):
        return Costing(book or row_of(["buy a 3", "buy b 5", "sell s 4", "late c b", "back s 1"]), Rule("oldest"))

    def test_no_such_sale(self):
        costs = self.some_costs()
        for name in ("a", "c", "z"):
            self.assert_error(UnknownName, {"name": name}, lambda: costs.cost(name))
            self.assert_error(UnknownName, {"name": name}, lambda: costs.parts(name))

    def test_no_such_entry(self):
        costs = self.some_costs()
        for day, number in [(0, 1), (5, 0), (-1, 0)]:
            self.assert_error(NoEntry, {"day": day, "number": number}, lambda: costs.booked(day, number))

    def test_returned_lists_are_new(self):
        costs = self.some_costs()
        for ask in (costs.layers, lambda: costs.parts("s")):
            expected = plain(ask())
            ask().append(("z", Ratio(1)))
            ask().clear()
            self.assert_parts(ask(), expected)
        self.assert_form(costs.cost("s"), {"a": 3})
        self.assert_form(costs.stock(), {"b": 5, "c": 1})

    def test_a_book_that_is_changed_later_has_no_effect(self):
        book = row_of(["buy a 3", "buy b 5", "sell s 4", "late c b", "back s 1"])
        costs = self.some_costs(book)
        book[0, 0] = ("buy", "z", 1)
        book[2, 0] = ("sell", "y", 1)
        book.remove(3, 0)
        book[9, 0] = ("sell", "x", 1)
        self.assert_form(costs.cost("s"), {"a": 3})
        self.assert_form(costs.booked(3, 0), {"c": Fraction(1, 5)})
        self.assert_form(costs.booked(4, 0), {"b": -1, "c": Fraction(-1, 5)})
        self.assert_form(costs.paid(), {"a": 3, "b": 5, "c": 1})
        self.assert_parts(costs.layers(), whole("b5"))
        self.assert_form(costs.until(MOST), {"a": 3})
        self.assert_error(UnknownName, {"name": "x"}, lambda: costs.cost("x"))
        self.assert_error(NoEntry, {"day": 9, "number": 0}, lambda: costs.booked(9, 0))

    def test_a_book_in_a_trial(self):
        book = row_of(["buy a 3", "buy b 5"])
        with book.trial():
            book[2, 0] = ("sell", "s", 4)
            costs = Costing(book, Rule("newest"))
        self.assert_form(costs.cost("s"), {"b": 4})
        self.assert_error(UnknownName, {"name": "s"}, lambda: Costing(book, Rule("newest")).cost("s"))

    def test_the_book_stays(self):
        book = row_of(["buy a 3", "sell s 2", "back s 1", "late c a"])
        before = {at: book[at] for at in book.places()}
        costs = Costing(book, Rule("even", period=2))
        costs.until(3)
        costs.paid()
        self.assertEqual({at: book[at] for at in book.places()}, before)


class ByHandTest(CostingCase):
    """Many books under every rule, compared with costings that are worked out on their own."""

    def random_entry(self, chance):
        kind = chance.choice(["buy", "buy", "sell", "sell", "back", "back", "late"])
        lots, sales, costs = "abcdeg", "stuv", "fgh"
        if kind == "buy":
            return kind, chance.choice(lots), chance.randint(1, 4)
        if kind == "late":
            return kind, chance.choice(costs), chance.choice(lots)
        return kind, chance.choice(sales), chance.randint(1, 4 if kind == "sell" else 2)

    def random_book(self, chance, rule, wanted):
        """A book to which only entries were added with which it still has costs."""
        book = Book()
        for _ in range(8 * wanted):
            at = (chance.randint(0, 6), chance.randint(0, 2))
            if len(book) < wanted and at not in book:
                book[at] = self.random_entry(chance)
                try:
                    ByHand(book, *rule)
                except Wrong:
                    book.remove(*at)
        return book

    def assert_sums(self, costs, book):
        """Point 28: what is booked adds up to the costs, and these and the stock to what was paid."""
        booked = added([table(costs.booked(*at)) for at in book.places()])
        sold = added([table(costs.cost(sale)) for sale in book.sales()])
        self.assertEqual(booked, sold)
        self.assertEqual(added([sold, table(costs.stock())]), table(costs.paid()))

    def assert_like_by_hand(self, costs, hand, book):
        for at in book.places():
            self.assert_form(costs.booked(*at), hand.booked[at])
        for day in range(-1, 9):
            self.assert_form(costs.until(day), added([hand.booked[at] for at in book.places() if at[0] <= day]))
        for sale, units in hand.sold.items():
            self.assert_form(costs.cost(sale), hand.cost(units))
            self.assert_parts(costs.parts(sale), hand.goods.parts(units))
        self.assert_parts(costs.layers(), hand.goods.parts(hand.goods.units))
        self.assert_form(costs.stock(), hand.cost(hand.goods.units))
        self.assert_form(costs.paid(), {**hand.bought, **{name: 1 for name in hand.late}})

    def test_books_with_costs(self):
        chance = random.Random(1)
        for take, place, period in RULES:
            for wanted in (4, 8, 12, 12, 12):
                book = self.random_book(chance, (take, place, period), wanted)
                costs = Costing(book, Rule(take, place=place, period=period))
                self.assert_like_by_hand(costs, ByHand(book, take, place, period), book)
                self.assert_sums(costs, book)
                self.assertEqual(sorted(book.lots()), sorted(set(table(costs.paid())) - set(book.late_costs())))

    def test_books_with_anything(self):
        chance = random.Random(2)
        seen = {}
        for take, place, period in RULES:
            for _ in range(40):
                book = Book()
                for _ in range(chance.randint(1, 7)):
                    book[chance.randint(0, 6), chance.randint(0, 2)] = self.random_entry(chance)
                rule = Rule(take, place=place, period=period)
                try:
                    hand = ByHand(book, take, place, period)
                except Wrong as wrong:
                    error, *told = wrong.args
                    seen[error] = True
                    with self.assertRaises(error) as caught:
                        Costing(book, rule)
                    self.assertEqual(list(vars(caught.exception).values()), told)
                else:
                    self.assert_like_by_hand(Costing(book, rule), hand, book)
        self.assertEqual(sorted([error.__name__ for error in seen]),
                         ["NameTaken", "NotEnough", "TooMany", "UnknownName"])

    def test_each_lot_has_one_layer_under_own_and_even(self):
        chance = random.Random(3)
        for take, place in product(TAKES, PLACES):
            if take == "even" or place == "own":
                for _ in range(10):
                    book = self.random_book(chance, (take, place, 0), 14)
                    lots = [lot for lot, _ in Costing(book, Rule(take, place=place)).layers()]
                    self.assertEqual(lots, [lot for lot in book.lots() if lot in lots])


if __name__ == "__main__":
    unittest.main()

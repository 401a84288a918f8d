"""Points 3 and 46 to 49: books that show how rules differ."""

import random
import unittest
from functools import lru_cache
from itertools import combinations, combinations_with_replacement, product

from helping import MOST, PLACES, TAKES, Case, entries_of, row_of, rules, table
from lotcosts.books import Book
from lotcosts.costing import Costing
from lotcosts.errors import CostError
from lotcosts.histories import periods_show, returns_show, rules_part
from lotcosts.layers import Rule

PERIODS = (0, 1, 2, 3, 4, 7, MOST - 1, MOST)


def name_of(rule):
    return rule.take, rule.place, rule.period


def class_of(rule):
    """What rules that are alike have in common, as point 46 tells it."""
    if rule.take == "even":
        return "even", rule.period
    if rule.take == "oldest" and rule.place in ("own", "bottom"):
        return rule.take, rule.place
    return rule.take, rule.place, rule.period


def indifferent_to_returns(rule):
    """Whether a rule is, as point 47 tells it."""
    return rule.take == "even" or rule.place == "own" or (rule.take, rule.place) in (("newest", "top"),
                                                                                    ("oldest", "bottom"))


def sale_costs(book, rule):
    """The costs of the sales, or None if the rule cannot cost the book."""
    try:
        costs = Costing(book, rule)
    except CostError:
        return None
    return {sale: table(costs.cost(sale)) for sale in book.sales()}


def differ(one, other):
    return one is not None and other is not None and one != other


@lru_cache(maxsize=None)
def rows_of(many):
    """All rows of so many entries of one unit, in which only what was sold is brought back, once."""
    if many == 0:
        return [()]
    found = []
    for row in rows_of(many - 1):
        names = [name for _, name, _ in row]
        for kind, names_left in (("buy", "abcdefg"), ("sell", "stuvwxy")):
            name = [name for name in names_left if name not in names][0]
            found.append(row + ((kind, name, 1),))
        found += [row + (("back", name, 1),) for name in "stuvwxy" if names.count(name) == 1]
    return found


def book_of(row, days):
    book = Book()
    for number, (entry, day) in enumerate(zip(row, days)):
        book[day, number] = entry
    return book


def books_of(many, days):
    """All books of so many such entries on some of these days."""
    for row in rows_of(many):
        for chosen in combinations_with_replacement(days, many):
            yield book_of(row, chosen)


class HistoriesCase(Case):
    def assert_plain(self, book):
        """All entries are of one unit, and there are no late costs."""
        self.assertIs(type(book), Book)
        for entry in entries_of(book).values():
            self.assertIn(entry[0], ("buy", "sell", "back"))
            self.assertEqual(entry[2], 1)

    def assert_parts(self, book, one, other):
        self.assert_plain(book)
        costs = [sale_costs(book, one), sale_costs(book, other)]
        self.assertTrue(differ(*costs), (name_of(one), name_of(other), entries_of(book)))


class RulesPartTest(HistoriesCase):
    def test_every_pair_of_rules(self):
        for one, other in product(rules(PERIODS), repeat=2):
            if class_of(one) == class_of(other):
                self.assertIsNone(rules_part(one, other))
            else:
                self.assert_parts(rules_part(one, other), one, other)

    def test_no_smaller_book_parts_rules(self):
        parted = rules((0, 1, 2))
        # Days of which the periods of one day and of two days make all groups that they can make.
        days = range(4)
        sizes = {}
        for many in range(5):
            for book in books_of(many, days):
                costs = [sale_costs(book, rule) for rule in parted]
                for (at, one), (to, other) in combinations(enumerate(costs), 2):
                    if differ(one, other):
                        sizes.setdefault((at, to), many)
        for (at, one), (to, other) in combinations(enumerate(parted), 2):
            book = rules_part(one, other)
            if book is not None and len(book) <= 5:
                self.assertEqual(sizes.get((at, to), 5), len(book), (name_of(one), name_of(other)))
            else:
                self.assertNotIn((at, to), sizes)

    def test_no_smaller_book_parts_rules_that_take_the_oldest(self):
        parted = [Rule("oldest", place=place, period=period) for place in ("own", "bottom") for period in (0, 2)]
        for many in range(5, 7):
            # More than one lot and more than one sale are needed to tell any rules apart.
            for row in rows_of(many):
                kinds = [kind for kind, _, _ in row]
                if kinds.count("buy") > 1 and kinds.count("sell") > 1 and kinds.count("back") > 0:
                    for late in range(many + 1):
                        book = book_of(row, [0] * late + [2] * (many - late))
                        costs = [sale_costs(book, rule) for rule in parted]
                        self.assertFalse(any(differ(*pair) for pair in combinations(costs, 2)), row)
        self.assertEqual(len(rules_part(parted[0], parted[-1])), 7)

    def test_rules_that_are_alike_cost_alike(self):
        chance = random.Random(21)
        for _ in range(150):
            book, left = Book(), {}
            for number in range(14):
                day = number // 3
                kind = chance.choice(["buy", "buy", "sell", "back"])
                name = "abcdefghijklmnop"[number]
                if kind == "back" and left:
                    name = chance.choice(sorted(left))
                    book[day, number] = ("back", name, chance.randint(1, 2))
                elif kind == "sell":
                    left[name] = True
                    book[day, number] = ("sell", name, chance.randint(1, 4))
                else:
                    book[day, number] = ("buy", name, chance.randint(1, 5))
            costs = {}
            for rule in rules((0, 1, 2, 5)):
                found = sale_costs(book, rule)
                if found is not None:
                    self.assertEqual(costs.setdefault(class_of(rule), found), found)

    def test_sizes(self):
        sizes = [
            (Rule("oldest"), Rule("newest"), 3), (Rule("oldest", period=9), Rule("even", period=2), 3),
            (Rule("even"), Rule("even", period=1), 3), (Rule("even", place="top", period=3), Rule("even", period=2), 3),
            (Rule("newest", period=3), Rule("newest", place="top", period=2), 3),
            (Rule("newest"), Rule("newest", place="top"), 5), (Rule("newest", period=5),
                                                               Rule("newest", place="bottom", period=5), 5),
            (Rule("newest", place="top", period=MOST), Rule("newest", place="bottom", period=MOST), 5),
            (Rule("newest", place="top", period=MOST), Rule("newest", period=MOST), 5),
            (Rule("oldest", place="top"), Rule("oldest"), 5), (Rule("oldest", place="top"),
                                                              Rule("oldest", place="bottom", period=8), 5),
            (Rule("oldest", place="top"), Rule("oldest", place="top", period=1), 5),
            (Rule("oldest", place="top", period=6), Rule("oldest", place="top", period=4), 5),
            (Rule("oldest"), Rule("oldest", place="bottom"), 7),
            (Rule("oldest", place="bottom", period=3), Rule("oldest", period=6), 7),
        ]
        for one, other, size in sizes:
            self.assertEqual([len(rules_part(one, other)), len(rules_part(other, one))], [size, size])

    def test_periods_that_divide_each_other_and_that_do_not(self):
        for take, place in product(TAKES, PLACES):
            for periods in product((1, 2, 3, 4, 5, 6, 8, 9, MOST // 2, MOST - 1, MOST), repeat=2):
                one, other = [Rule(take, place=place, period=period) for period in periods]
                if class_of(one) != class_of(other):
                    self.assert_parts(rules_part(one, other), one, other)

    def test_each_book_is_new(self):
        one, other = Rule("oldest"), Rule("newest")
        first = rules_part(one, other)
        before = entries_of(first)
        for place in first.places():
            first.remove(*place)
        self.assertEqual(entries_of(rules_part(one, other)), before)
        self.assert_parts(rules_part(one, other), one, other)
        self.assertEqual([name_of(one), name_of(other)], [("oldest", "own", 0), ("newest", "own", 0)])


def without_returned_sale(book, rule, at):
    """The book without the worked entries number `at` and the next one, if these are a sale and its whole return."""
    places = rule.worked(book)
    sale, back = book[places[at]], book[places[at + 1]]
    if sale[0] != "sell" or back != ("back", sale[1], sale[2]):
        return None
    left = Book()
    for place in places[:at] + places[at + 2:]:
        left[place] = book[place]
    return left


class ReturnsShowTest(HistoriesCase):
    def assert_shows(self, book, rule):
        self.assert_plain(book)
        self.assertTrue(self.shows(book, rule), name_of(rule))
        self.assertEqual(len(book), 5)

    def shows(self, book, rule):
        """Whether the last three entries show that returns matter, in the order of working through."""
        if len(book) < 3:
            return False
        left = without_returned_sale(book, rule, len(book) - 3)
        kind, name, _ = book[rule.worked(book)[-1]]
        if left is None or kind != "sell":
            return False
        costs = [sale_costs(book, rule), sale_costs(left, rule)]
        return costs[0] is not None and costs[0][name] != costs[1][name]

    def test_every_rule(self):
        for rule in rules(PERIODS):
            if indifferent_to_returns(rule):
                self.assertIsNone(returns_show(rule))
            else:
                self.assert_shows(returns_show(rule), rule)

    def test_no_smaller_book_shows_it(self):
        for many in range(3, 5):
            for book in books_of(many, (0, 1, 2)):
                for rule in rules((0, 1, 2)):
                    self.assertFalse(self.shows(book, rule))

    def test_indifferent_rules(self):
        chance = random.Random(22)
        seen = 0
        for _ in range(300):
            number = chance.randint(3, 8)
            entries = [("buy", "abcdefgh"[at], chance.randint(1, 4)) for at in range(number)]
            entries += [("sell", "stuvw"[at], chance.randint(1, 5)) for at in range(4)]
            chance.shuffle(entries)
            entries.insert(0, ("buy", "z", 6))
            at = chance.choice([at for at, entry in enumerate(entries) if entry[0] == "sell"])
            entries.insert(at + 1, ("back", *entries[at][1:]))
            sold = [entry[1] for entry in entries[at + 2:] if entry[0] == "sell"]
            if sold:
                entries.append(("back", sold[0], 1))
            for rule in rules((0, 1, 3)):
                book = book_of(entries, [place // 3 for place in range(len(entries))])
                costs = sale_costs(book, rule)
                for spot in range(len(book) - 1):
                    left = without_returned_sale(book, rule, spot)
                    if costs is not None and left is not None and indifferent_to_returns(rule):
                        seen += 1
                        others = sale_costs(left, rule)
                        self.assertEqual(others, {name: costs[name] for name in others})
                        self.assertEqual(len(costs), len(others) + 1)
        self.assertGreater(seen, 300)

    def test_each_book_is_new(self):
        rule = Rule("newest", place="bottom", period=4)
        first = returns_show(rule)
        first.remove(*first.places()[0])
        self.assert_shows(returns_show(rule), rule)


class PeriodsShowTest(HistoriesCase):
    def test_every_rule(self):
        for rule in rules(PERIODS):
            plain = Rule(rule.take, place=rule.place)
            if class_of(rule) == class_of(plain):
                self.assertIsNone(periods_show(rule))
            else:
                self.assert_parts(periods_show(rule), rule, plain)
                self.assertEqual(len(periods_show(rule)), 5 if rule.take == "oldest" else 3)

    def test_each_book_is_new(self):
        rule = Rule("even", period=3)
        periods_show(rule).remove(*periods_show(rule).places()[0])
        self.assert_parts(periods_show(rule), rule, Rule("even"))


class OwnPlaceTest(HistoriesCase):
    """Point 49."""

    def test_periods_and_returned_sales_change_nothing(self):
        entries = ["buy a 3", "sell s 2", "buy b 4", "sell t 3", "back s 1", "buy c 2", "back t 2", "sell u 5"]
        costs = sale_costs(row_of(entries), Rule("oldest"))
        for period in range(1, 12):
            self.assertEqual(sale_costs(row_of(entries), Rule("oldest", period=period)), costs)
            self.assertIsNone(periods_show(Rule("oldest", period=period)))
            self.assertIsNone(returns_show(Rule("oldest", period=period)))
        for at in range(1, len(entries) + 1):
            more = entries[:at] + ["sell x 1", "back x 1"] + entries[at:]
            self.assertEqual(sale_costs(row_of(more), Rule("oldest")), {**costs, "x": {}})


if __name__ == "__main__":
    unittest.main()

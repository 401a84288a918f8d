"""Points 3, 4 and 18 to 23: layers and rules."""

import unittest
from fractions import Fraction
from itertools import product

from lotcosts.books import Book
from lotcosts.errors import BadRule, Short
from lotcosts.layers import Rule
from lotcosts.ratios import Ratio

MOST = 1000000
TAKES = ("oldest", "newest", "even")
PLACES = ("own", "top", "bottom")
LOTS = ["a", "b", "c", "d"]
AMOUNTS = [Fraction(1), Fraction(2), Fraction(5, 3)]


def ratio(number):
    return Ratio(Fraction(number).numerator, Fraction(number).denominator)


def parts_of(text):
    """The parts that a text such as "a3 b1/2" tells."""
    return [(word[0], ratio(Fraction(word[1:]))) for word in text.split()]


def plain(parts):
    return [(lot, Fraction(amount.top, amount.bottom)) for lot, amount in parts]


def expected_parts(text):
    return plain(parts_of(text))


def some_layers():
    """Lists of up to four layers in which lots stand apart, in any order."""
    for many in range(5):
        for lots in product("abc", repeat=many):
            if all(low != high for low, high in zip(lots, lots[1:])):
                yield [(lot, AMOUNTS[(at + many) % 3]) for at, lot in enumerate(lots)]


def between(parts, start, end):
    """What of the parts lies between two heights, counted from the first part on."""
    found, height = [], Fraction(0)
    for lot, amount in parts:
        inside = min(end, height + amount) - max(start, height)
        height += amount
        if inside > 0:
            found.append((lot, inside))
    return found


def split_by_hand(take, parts, units):
    """The parts that are taken, in the order of `parts`, and the other ones, worked out by heights."""
    total = sum([amount for _, amount in parts], Fraction(0))
    if take == "oldest":
        return between(parts, 0, units), between(parts, units, total)
    if take == "newest":
        return between(parts, total - units, total), between(parts, 0, total - units)
    taken = [(lot, amount * units / total) for lot, amount in parts]
    return taken, [(lot, amount - part) for (lot, amount), (_, part) in zip(parts, taken) if amount > part]


def laid_by_hand(place, layers, parts, lots):
    """The layers after the parts came back, as point 21 tells it word by word."""
    stock = [list(layer) for layer in layers]
    for lot, amount in parts:
        own = [at for at in range(len(stock)) if stock[at][0] == lot]
        later = [at for at in range(len(stock)) if lots.index(stock[at][0]) > lots.index(lot)]
        if place == "own" and own:
            stock[min(own)][1] += amount
        else:
            at = {"top": len(stock), "bottom": 0, "own": min(later + [len(stock)])}[place]
            stock.insert(at, [lot, amount])
        merged = []
        for name, many in stock:
            if merged and merged[-1][0] == name:
                merged[-1][1] += many
            else:
                merged.append([name, many])
        stock = merged
    return [tuple(layer) for layer in stock]


class LayersCase(unittest.TestCase):
    def assert_parts(self, parts, expected):
        """The value is a list of tuples (name, ratio), the expected ones."""
        self.assertIs(type(parts), list)
        for part in parts:
            self.assertIs(type(part), tuple)
            self.assertIs(type(part[1]), Ratio)
        self.assertEqual(plain(parts), expected)

    def assert_split(self, pair, first, second):
        self.assertIs(type(pair), tuple)
        self.assert_parts(pair[0], expected_parts(first))
        self.assert_parts(pair[1], expected_parts(second))

    def assert_short(self, missing, deed):
        with self.assertRaises(Short) as caught:
            deed()
        self.assertIs(type(caught.exception), Short)
        self.assertIs(type(caught.exception.missing), Ratio)
        self.assertEqual(plain([("", caught.exception.missing)]), [("", Fraction(missing))])


class RuleTest(LayersCase):
    def assert_bad(self, word, deed):
        with self.assertRaises(BadRule) as caught:
            deed()
        self.assertEqual(caught.exception.word, word)

    def test_attributes(self):
        for take, place, period in product(TAKES, PLACES, (0, 1, 7, MOST)):
            rule = Rule(take, place=place, period=period)
            self.assertEqual((rule.take, rule.place, rule.period), (take, place, period))

    def test_what_is_left_out(self):
        for take in TAKES:
            rule = Rule(take)
            self.assertEqual((rule.take, rule.place, rule.period), (take, "own", 0))

    def test_wrong_take(self):
        for take in ("", "Oldest", "old", "own", "top", "oldest ", None, 0, True, ["oldest"], ("oldest",)):
            self.assert_bad("take", lambda: Rule(take))

    def test_wrong_place(self):
        for place in ("", "Top", "middle", "oldest", None, 0, ["top"], ("own",)):
            for take in TAKES:
                self.assert_bad("place", lambda: Rule(take, place=place))

    def test_wrong_period(self):
        for period in (-1, MOST + 1, 10 ** 50, True, False, None, "7", Ratio(7)):
            for take in TAKES:
                self.assert_bad("period", lambda: Rule(take, period=period))

    def test_which_error_comes_first(self):
        self.assert_bad("take", lambda: Rule("any", place="any", period=-1))
        self.assert_bad("take", lambda: Rule("any", period=-1))
        self.assert_bad("place", lambda: Rule("even", place="any", period=-1))

    def test_place_and_period_are_passed_by_name(self):
        with self.assertRaises(TypeError):
            Rule("oldest", "top")


class TakingTest(LayersCase):
    def test_oldest(self):
        layers = parts_of("a3 b5 a2")
        rule = Rule("oldest")
        self.assert_split(rule(layers, 1), "a1", "a2 b5 a2")
        self.assert_split(rule(layers, 3), "a3", "b5 a2")
        self.assert_split(rule(layers, 4), "a3 b1", "b4 a2")
        self.assert_split(rule(layers, 9), "a3 b5 a1", "a1")
        self.assert_split(rule(layers, 10), "a3 b5 a2", "")

    def test_newest(self):
        layers = parts_of("a3 b5 a2")
        rule = Rule("newest")
        self.assert_split(rule(layers, 1), "a1", "a3 b5 a1")
        self.assert_split(rule(layers, 2), "a2", "a3 b5")
        self.assert_split(rule(layers, 4), "a2 b2", "a3 b3")
        self.assert_split(rule(layers, 9), "a2 b5 a2", "a1")
        self.assert_split(rule(layers, 10), "a2 b5 a3", "")

    def test_even(self):
        layers = parts_of("a3 b5 a2")
        rule = Rule("even")
        self.assert_split(rule(layers, 1), "a3/10 b1/2 a1/5", "a27/10 b9/2 a9/5")
        self.assert_split(rule(layers, 4), "a6/5 b2 a4/5", "a9/5 b3 a6/5")
        self.assert_split(rule(layers, 10), "a3 b5 a2", "")

    def test_units_and_amounts_that_are_no_whole_numbers(self):
        layers = parts_of("a1/2 b1/3")
        self.assert_split(Rule("oldest")(layers, Ratio(3, 5)), "a1/2 b1/10", "b7/30")
        self.assert_split(Rule("newest")(layers, Ratio(3, 5)), "b1/3 a4/15", "a7/30")
        self.assert_split(Rule("even")(layers, Ratio(1, 2)), "a3/10 b1/5", "a1/5 b2/15")
        for take in TAKES:
            self.assertEqual(Rule(take)(layers, Ratio(5, 6))[1], [])

    def test_a_ratio_that_is_a_whole_number(self):
        for take in TAKES:
            for units in (1, 2, 3):
                one, other = Rule(take)(parts_of("a1 b2"), units), Rule(take)(parts_of("a1 b2"), Ratio(units))
                self.assertEqual([plain(parts) for parts in one], [plain(parts) for parts in other])

    def test_one_layer(self):
        for take in TAKES:
            self.assert_split(Rule(take)(parts_of("a5"), 5), "a5", "")
            self.assert_split(Rule(take)(parts_of("a5"), 2), "a2", "a3")

    def test_the_place_has_no_effect(self):
        for take, place in product(TAKES, PLACES):
            one, other = Rule(take)(parts_of("a1 b2"), 2), Rule(take, place=place, period=5)(parts_of("a1 b2"), 2)
            self.assertEqual([plain(parts) for parts in one], [plain(parts) for parts in other])

    def test_short(self):
        for take, place in product(TAKES, PLACES):
            rule = Rule(take, place=place)
            self.assert_short(1, lambda: rule(parts_of("a3 b5 a2"), 11))
            self.assert_short(Fraction(1, 6), lambda: rule(parts_of("a1/2 b1/3"), 1))
            self.assert_short(Fraction(1, MOST), lambda: rule(parts_of("a3"), Ratio(3 * MOST + 1, MOST)))
            self.assert_short(7, lambda: rule([], 7))
            self.assert_short(Fraction(1, 7), lambda: rule([], Ratio(1, 7)))

    def test_large_amounts(self):
        huge = 10 ** 50
        layers = [("a", Ratio(huge)), ("b", Ratio(1, huge))]
        self.assert_parts(Rule("oldest")(layers, huge)[1], [("b", Fraction(1, huge))])
        self.assert_parts(Rule("newest")(layers, huge)[1], [("a", Fraction(1, huge))])
        self.assert_parts(Rule("even")(layers, huge)[0],
                          [("a", Fraction(huge ** 3, huge ** 2 + 1)), ("b", Fraction(huge, huge ** 2 + 1))])
        self.assert_short(1, lambda: Rule("even")([("a", Ratio(huge))], huge + 1))

    def test_all_layers_by_hand(self):
        for layers in some_layers():
            given = [(lot, ratio(amount)) for lot, amount in layers]
            total = sum([amount for _, amount in layers], Fraction(0))
            for take, units in product(TAKES, (Fraction(1), Fraction(2), Fraction(7, 3), total)):
                if 0 < units <= total:
                    taken, left = split_by_hand(take, layers, units)
                    found = Rule(take)(given, ratio(units))
                    self.assert_parts(found[0], taken[::-1] if take == "newest" else taken)
                    self.assert_parts(found[1], left)
                    self.assertEqual(sum([amount for _, amount in plain(found[0])]), units)

    def test_arguments_stay_and_lists_are_new(self):
        for take in TAKES:
            for units in (1, 3, 5, 8):
                layers = parts_of("a3 b5")
                taken, left = Rule(take)(layers, units)
                self.assertIsNot(taken, layers)
                self.assertIsNot(left, layers)
                self.assertIsNot(taken, left)
                taken.append("other")
                left.append("other")
                self.assertEqual(plain(layers), expected_parts("a3 b5"))
            layers = parts_of("a3 b5")
            self.assert_short(1, lambda: Rule(take)(layers, 9))
            self.assertEqual(plain(layers), expected_parts("a3 b5"))


class LayingTest(LayersCase):
    def assert_laid(self, rule, layers, parts, expected, lots=LOTS):
        self.assert_parts(rule.laid(parts_of(layers), parts_of(parts), list(lots)), expected_parts(expected))

    def test_top(self):
        for take in ("oldest", "newest"):
            rule = Rule(take, place="top")
            self.assert_laid(rule, "a1 b2", "c3", "a1 b2 c3")
            self.assert_laid(rule, "a1 b2", "a3", "a1 b2 a3")
            self.assert_laid(rule, "a1 b2", "b3", "a1 b5")
            self.assert_laid(rule, "a1 b2", "b1 a2 a3 b4", "a1 b3 a5 b4")
            self.assert_laid(rule, "", "c1 a1/2 a1/3", "c1 a5/6")

    def test_bottom(self):
        for take in ("oldest", "newest"):
            rule = Rule(take, place="bottom")
            self.assert_laid(rule, "a1 b2", "c3", "c3 a1 b2")
            self.assert_laid(rule, "a1 b2", "b3", "b3 a1 b2")
            self.assert_laid(rule, "a1 b2", "a3", "a4 b2")
            self.assert_laid(rule, "a1 b2", "a1 b2 b3 a4", "a4 b5 a2 b2")
            self.assert_laid(rule, "", "c1 a1/2 a1/3", "a5/6 c1")

    def test_own(self):
        for take in ("oldest", "newest"):
            rule = Rule(take, place="own")
            self.assert_laid(rule, "a1 b2 c3", "b5", "a1 b7 c3")
            self.assert_laid(rule, "b2 c3", "a5", "a5 b2 c3")
            self.assert_laid(rule, "a1 c3", "b5", "a1 b5 c3")
            self.assert_laid(rule, "a1 b2", "d5", "a1 b2 d5")
            self.assert_laid(rule, "a1 d2", "b5", "a1 b5 d2")
            self.assert_laid(rule, "", "d5", "d5")
            self.assert_laid(rule, "a1", "d1 b1/2 c2 b1/3", "a1 b5/6 c2 d1")

    def test_own_joins_the_lowest_layer_of_its_lot(self):
        self.assert_laid(Rule("oldest"), "b1 a2 b3", "b5", "b6 a2 b3")
        self.assert_laid(Rule("newest"), "c1 a2 c3 a4", "a5", "c1 a7 c3 a4")

    def test_own_lies_below_the_lowest_layer_of_a_later_lot(self):
        self.assert_laid(Rule("oldest"), "c1 a2 d3", "b5", "b5 c1 a2 d3")
        self.assert_laid(Rule("oldest"), "a1 d2 a3 c4", "b5", "a1 b5 d2 a3 c4")
        self.assert_laid(Rule("newest"), "b1 a2 b3", "c5", "b1 a2 b3 c5")

    def test_the_order_of_the_lots_decides_and_not_their_names(self):
        self.assert_laid(Rule("oldest"), "c1 a2", "b5", "c1 b5 a2", "dcba")
        self.assert_laid(Rule("oldest"), "c1 a2", "d5", "d5 c1 a2", "dcba")
        self.assert_laid(Rule("oldest"), "d1 c2", "a5", "d1 c2 a5", "dcba")

    def test_even_lays_as_own_does(self):
        for place in PLACES:
            rule = Rule("even", place=place)
            self.assert_laid(rule, "a1 c3", "b5", "a1 b5 c3")
            self.assert_laid(rule, "a1/2 c3", "a1/3 d1", "a5/6 c3 d1")
            self.assert_laid(rule, "c1 a2 d3 a4", "a5 b5", "b5 c1 a7 d3 a4")

    def test_no_parts(self):
        for take, place in product(TAKES, PLACES):
            self.assert_laid(Rule(take, place=place), "a1 b2", "", "a1 b2")
            self.assert_laid(Rule(take, place=place), "", "", "")

    def test_all_layers_by_hand(self):
        parts = [("b", Fraction(1, 2)), ("b", Fraction(2)), ("d", Fraction(1)), ("a", Fraction(3)), ("d", Fraction(4))]
        given_parts = [(lot, ratio(amount)) for lot, amount in parts]
        for layers in some_layers():
            given = [(lot, ratio(amount)) for lot, amount in layers]
            for take, place, lots in product(TAKES, PLACES, (list("abcd"), list("cbda"))):
                expected = laid_by_hand("own" if take == "even" else place, layers, parts, lots)
                self.assert_parts(Rule(take, place=place).laid(given, given_parts, lots), expected)

    def test_arguments_stay_and_the_list_is_new(self):
        for take, place in product(TAKES, PLACES):
            for texts in (("a1 b2", "b3 a4"), ("", "a1"), ("a1", "")):
                layers, parts = [parts_of(text) for text in texts]
                lots = list("ab")
                laid = Rule(take, place=place).laid(layers, parts, lots)
                laid.append("other")
                self.assertEqual([plain(layers), plain(parts)], [expected_parts(text) for text in texts])
                self.assertEqual(lots, ["a", "b"])


class ReturningTest(LayersCase):
    def test_what_was_taken_last_comes_back_first(self):
        for take, place in product(("oldest", "newest"), PLACES):
            rule = Rule(take, place=place)
            self.assert_split(rule.returned(parts_of("a3 b5 c2"), 1), "c1", "a3 b5 c1")
            self.assert_split(rule.returned(parts_of("a3 b5 c2"), 2), "c2", "a3 b5")
            self.assert_split(rule.returned(parts_of("a3 b5 c2"), 4), "c2 b2", "a3 b3")
            self.assert_split(rule.returned(parts_of("a3 b5 c2"), 8), "c2 b5 a1", "a2")

    def test_the_same_share_of_every_part_comes_back(self):
        for place in PLACES:
            rule = Rule("even", place=place)
            self.assert_split(rule.returned(parts_of("a3 b5 c2"), 1), "c1/5 b1/2 a3/10", "a27/10 b9/2 c9/5")
            self.assert_split(rule.returned(parts_of("a3 b5 c2"), 5), "c1 b5/2 a3/2", "a3/2 b5/2 c1")

    def test_all_units(self):
        for take in TAKES:
            self.assert_split(Rule(take).returned(parts_of("a3 b5 c2"), 10), "c2 b5 a3", "")
            self.assert_split(Rule(take).returned(parts_of("a1/3 b1/6"), Ratio(1, 2)), "b1/6 a1/3", "")

    def test_parts_of_one_lot_stay_apart(self):
        for take in ("oldest", "newest"):
            self.assert_split(Rule(take).returned(parts_of("a3 b1 b2 b4"), 5), "b4 b1", "a3 b1 b1")
            self.assert_split(Rule(take).returned(parts_of("b1 b2 b4"), 7), "b4 b2 b1", "")
        self.assert_split(Rule("even").returned(parts_of("b1 b2"), 2), "b4/3 b2/3", "b1/3 b2/3")

    def test_units_that_are_no_whole_number(self):
        for take in ("oldest", "newest"):
            self.assert_split(Rule(take).returned(parts_of("a1/2 b1/3"), Ratio(2, 5)), "b1/3 a1/15", "a13/30")
        self.assert_split(Rule("even").returned(parts_of("a1/2 b1/3"), Ratio(1, 2)), "b1/5 a3/10", "a1/5 b2/15")

    def test_short(self):
        for take, place in product(TAKES, PLACES):
            rule = Rule(take, place=place)
            self.assert_short(1, lambda: rule.returned(parts_of("a3 b5"), 9))
            self.assert_short(Fraction(1, 6), lambda: rule.returned(parts_of("a1/2 b1/3"), 1))
            self.assert_short(Fraction(1, 2), lambda: rule.returned(parts_of("a3"), Ratio(7, 2)))
            self.assert_short(4, lambda: rule.returned([], 4))

    def test_all_parts_by_hand(self):
        for parts in some_layers():
            given = [(lot, ratio(amount)) for lot, amount in parts]
            total = sum([amount for _, amount in parts], Fraction(0))
            for take, units in product(TAKES, (Fraction(1), Fraction(2), Fraction(7, 3), total)):
                if 0 < units <= total:
                    back, kept = split_by_hand("even" if take == "even" else "newest", parts, units)
                    found = Rule(take).returned(given, ratio(units))
                    self.assert_parts(found[0], back[::-1])
                    self.assert_parts(found[1], kept)

    def test_arguments_stay_and_lists_are_new(self):
        for take in TAKES:
            for units in (1, 5, 8):
                parts = parts_of("a3 b5")
                back, kept = Rule(take).returned(parts, units)
                self.assertIsNot(back, kept)
                back.append("other")
                kept.append("other")
                self.assertEqual(plain(parts), expected_parts("a3 b5"))


class WorkedTest(LayersCase):
    def book_of(self, rows):
        book = Book()
        for day, number, kind in rows:
            book[day, number] = (kind, "some", "other" if kind == "late" else 1)
        return book

    def test_without_periods(self):
        book = self.book_of([(3, 0, "buy"), (1, 5, "sell"), (1, 6, "buy"), (2, 0, "late"), (0, 9, "back")])
        for take in TAKES:
            self.assertEqual(Rule(take).worked(book), [(0, 9), (1, 5), (1, 6), (2, 0), (3, 0)])

    def test_buys_of_a_period_come_first(self):
        book = self.book_of([(0, 0, "sell"), (0, 1, "buy"), (0, 2, "late"), (1, 0, "back"), (1, 1, "buy"),
                             (1, 2, "buy"), (2, 0, "sell"), (2, 1, "buy")])
        self.assertEqual(Rule("oldest", period=1).worked(book),
                         [(0, 1), (0, 0), (0, 2), (1, 1), (1, 2), (1, 0), (2, 1), (2, 0)])
        self.assertEqual(Rule("newest", period=2).worked(book),
                         [(0, 1), (1, 1), (1, 2), (0, 0), (0, 2), (1, 0), (2, 1), (2, 0)])
        self.assertEqual(Rule("even", period=3).worked(book),
                         [(0, 1), (1, 1), (1, 2), (2, 1), (0, 0), (0, 2), (1, 0), (2, 0)])

    def test_days_of_neighbouring_periods(self):
        book = self.book_of([(6, 0, "sell"), (7, 0, "sell"), (13, 0, "buy"), (13, 1, "sell"), (14, 0, "buy")])
        self.assertEqual(Rule("oldest", period=7).worked(book), [(6, 0), (13, 0), (7, 0), (13, 1), (14, 0)])
        self.assertEqual(Rule("oldest", period=14).worked(book), [(13, 0), (6, 0), (7, 0), (13, 1), (14, 0)])

    def test_the_longest_period(self):
        book = self.book_of([(0, 0, "sell"), (MOST - 1, 0, "buy"), (MOST, 0, "buy")])
        self.assertEqual(Rule("oldest", period=MOST).worked(book), [(MOST - 1, 0), (0, 0), (MOST, 0)])

    def test_all_kinds_but_buys_stay_in_the_order_of_their_places(self):
        for kinds in product(("buy", "sell", "back", "late"), repeat=4):
            book = self.book_of([(day, 0, kind) for day, kind in enumerate(kinds)])
            buys = [(day, 0) for day, kind in enumerate(kinds) if kind == "buy"]
            others = [(day, 0) for day, kind in enumerate(kinds) if kind != "buy"]
            self.assertEqual(Rule("even", period=4).worked(book), buys + others)

    def test_without_entries(self):
        for period in (0, 1, MOST):
            self.assertEqual(Rule("oldest", period=period).worked(Book()), [])

    def test_the_book_stays_and_the_list_is_new(self):
        book = self.book_of([(1, 0, "sell"), (2, 0, "buy")])
        for period in (0, 5):
            rule = Rule("oldest", period=period)
            expected = rule.worked(book)
            rule.worked(book).clear()
            self.assertEqual(rule.worked(book), expected)
            self.assertEqual(book.places(), [(1, 0), (2, 0)])


if __name__ == "__main__":
    unittest.main()

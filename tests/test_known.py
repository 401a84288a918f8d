"""Points 3 and 30 to 34: comparisons of prices."""

import random
import unittest
from fractions import Fraction
from itertools import combinations, product

from helping import BIG, form_of, fraction, told_by_hand
from lotcosts.forms import Form
from lotcosts.known import Known, carried, never_more
from lotcosts.ratios import Ratio

CHAIN = [("a", "b"), ("b", "c"), ("c", "d")]
RING = [("a", "b"), ("b", "c"), ("c", "a")]


def difference(one, other):
    """The shares of other minus those of one, without zeros."""
    shares = {name: fraction(other.share(name)) - fraction(one.share(name)) for name in one.names() + other.names()}
    return {name: share for name, share in shares.items() if share}


def keeps(pairs, prices):
    return all(prices.get(low, 0) <= prices.get(high, 0) for low, high in pairs)


def some_pairs(names):
    """All lists of up to three different comparisons of these names, also with themselves."""
    every = list(product(names, repeat=2))
    for many in range(4):
        for pairs in combinations(every, many):
            yield list(pairs)


class ToldTest(unittest.TestCase):
    def test_chains(self):
        known = Known(CHAIN)
        for low, high in product("abcd", repeat=2):
            self.assertIs(known.told(low, high), low <= high)

    def test_a_name_and_itself(self):
        for pairs in ([], CHAIN, [("z", "z")]):
            for name in ("a", "z", "other"):
                self.assertIs(Known(pairs).told(name, name), True)

    def test_names_that_no_comparison_has(self):
        known = Known(CHAIN)
        for low, high in [("a", "z"), ("z", "a"), ("y", "z")]:
            self.assertIs(known.told(low, high), False)

    def test_rings(self):
        known = Known(RING + [("c", "d")])
        for low, high in product("abc", repeat=2):
            self.assertIs(known.told(low, high), True)
        self.assertEqual([known.told("a", "d"), known.told("d", "a")], [True, False])

    def test_two_ways_and_comparisons_that_stand_twice(self):
        known = Known([("a", "b"), ("a", "c"), ("b", "d"), ("c", "d"), ("a", "b")])
        self.assertEqual([known.told("a", "d"), known.told("b", "c"), known.told("c", "b"), known.told("d", "a")],
                         [True, False, False, False])

    def test_a_long_chain(self):
        names = [first + second for first, second in product("abcdefghijklmnopqrstuvwxyz", repeat=2)]
        names = names + ["z" + name for name in names]
        known = Known(list(zip(names, names[1:])))
        self.assertEqual([known.told(names[0], names[-1]), known.told(names[-1], names[0])], [True, False])
        self.assertIsNone(never_more(Form.of(names[0]), Form.of(names[-1]), known))

    def test_by_hand(self):
        for pairs in some_pairs("abc"):
            known = Known(pairs)
            for low, high in product("abc", repeat=2):
                self.assertIs(known.told(low, high), low == high or told_by_hand(pairs, low, high), pairs)

    def test_told_is_what_holds_at_all_prices(self):
        for pairs in some_pairs("abc"):
            known = Known(pairs)
            tables = [dict(zip("abc", prices)) for prices in product(range(3), repeat=3)]
            kept = [prices for prices in tables if keeps(pairs, prices)]
            for low, high in product("abc", repeat=2):
                self.assertIs(known.told(low, high), all(prices[low] <= prices[high] for prices in kept), pairs)

    def test_a_chain_back_to_the_name(self):
        self.assertIs(Known([("a", "b"), ("b", "a")]).told("a", "a"), True)


class NamesTest(unittest.TestCase):
    def test_names_ascend_each_once(self):
        known = Known([("silk", "wool"), ("flax", "silk"), ("silk", "wool"), ("hemp", "hemp")])
        self.assertEqual(known.names(), ["flax", "hemp", "silk", "wool"])
        self.assertEqual(Known([]).names(), [])

    def test_the_list_of_pairs_stays_and_is_copied(self):
        pairs = [("a", "b"), ("b", "a"), ("a", "b")]
        known = Known(pairs)
        known.names()
        known.equal_names()
        known.needless()
        known.told("a", "b")
        self.assertEqual(pairs, [("a", "b"), ("b", "a"), ("a", "b")])
        pairs.clear()
        pairs.append(("y", "z"))
        self.assertEqual([known.told("a", "b"), known.told("y", "z")], [True, False])
        self.assertEqual([known.names(), known.equal_names(), known.needless()], [["a", "b"], [["a", "b"]], [0, 2]])
        self.assertEqual(never_more(Form.of("a"), Form.of("b"), known), None)

    def test_returned_lists_are_new(self):
        known = Known([("a", "b"), ("b", "a"), ("a", "b")])
        known.names().clear()
        known.needless().clear()
        known.equal_names()[0].clear()
        known.equal_names().clear()
        self.assertEqual([known.names(), known.equal_names(), known.needless()], [["a", "b"], [["a", "b"]], [0, 2]])


class EqualNamesTest(unittest.TestCase):
    def test_without_rings(self):
        for pairs in ([], CHAIN, [("a", "a")], [("a", "b"), ("a", "b")]):
            self.assertEqual(Known(pairs).equal_names(), [])

    def test_rings(self):
        self.assertEqual(Known(RING).equal_names(), [["a", "b", "c"]])
        self.assertEqual(Known(RING[::-1] + [("c", "d"), ("e", "a")]).equal_names(), [["a", "b", "c"]])

    def test_groups_are_ordered_by_their_first_names(self):
        pairs = [("z", "b"), ("b", "z"), ("y", "c"), ("c", "y"), ("x", "a"), ("b", "c"), ("x", "x")]
        self.assertEqual(Known(pairs).equal_names(), [["b", "z"], ["c", "y"]])
        pairs = [("d", "c"), ("c", "a"), ("a", "d"), ("b", "e"), ("e", "b")]
        self.assertEqual(Known(pairs).equal_names(), [["a", "c", "d"], ["b", "e"]])

    def test_two_rings_with_one_name_in_common(self):
        self.assertEqual(Known([("a", "m"), ("m", "a"), ("m", "z"), ("z", "m")]).equal_names(), [["a", "m", "z"]])

    def test_by_hand(self):
        for pairs in some_pairs("abc"):
            groups = []
            for name in "abc":
                group = [other for other in "abc"
                         if told_by_hand(pairs, name, other) and told_by_hand(pairs, other, name)]
                if len(group) > 1 and group not in groups:
                    groups.append(group)
            self.assertEqual(Known(pairs).equal_names(), groups, pairs)


class NeedlessTest(unittest.TestCase):
    def test_nothing_is_needless(self):
        for pairs in ([], CHAIN, RING, [("a", "b"), ("b", "a")]):
            self.assertEqual(Known(pairs).needless(), [])

    def test_what_a_chain_tells(self):
        self.assertEqual(Known(CHAIN + [("a", "d"), ("d", "e"), ("b", "d")]).needless(), [3, 5])
        self.assertEqual(Known([("a", "c"), ("a", "b"), ("b", "c")]).needless(), [0])

    def test_a_name_with_itself(self):
        self.assertEqual(Known([("a", "a"), ("a", "b"), ("b", "b")]).needless(), [0, 2])

    def test_comparisons_that_stand_twice_or_more_often(self):
        self.assertEqual(Known([("a", "b"), ("c", "d"), ("a", "b")]).needless(), [0, 2])
        self.assertEqual(Known([("a", "b")] * 3).needless(), [0, 1, 2])

    def test_in_a_ring(self):
        self.assertEqual(Known(RING + [("b", "a")]).needless(), [3])
        self.assertEqual(Known([("a", "b"), ("b", "a"), ("b", "c"), ("c", "a"), ("a", "c")]).needless(), [1, 2, 4])

    def test_by_hand(self):
        for pairs in some_pairs("abc"):
            for rows in (pairs, pairs + pairs[:1]):
                expected = [at for at, (low, high) in enumerate(rows)
                            if low == high or told_by_hand(rows[:at] + rows[at + 1:], low, high)]
                self.assertEqual(Known(rows).needless(), expected, rows)


class NeverMoreCase(unittest.TestCase):
    def assert_more_at(self, prices, one, other, pairs):
        """The prices keep the comparisons, and one is greater at them."""
        self.assertIs(type(prices), dict)
        self.assertEqual(sorted(prices), sorted({*one.names(), *other.names(), *Known(pairs).names()}))
        for price in prices.values():
            self.assertIs(type(price), int)
            self.assertIn(price, (0, 1))
        for low in prices:
            for high in prices:
                if prices[low] == 1 and told_by_hand(pairs, low, high):
                    self.assertEqual(prices[high], 1)
        self.assertTrue(keeps(pairs, prices))
        self.assertTrue(other.at(prices).less(one.at(prices)))

    def assert_carried(self, rows, one, other, pairs):
        """The rows show that one is never greater, as point 33 tells it."""
        self.assertIs(type(rows), list)
        shares = difference(one, other)
        sources, targets = {}, {}
        for row in rows:
            self.assertIs(type(row), tuple)
            source, target, amount = row
            self.assertIs(type(amount), Ratio)
            self.assertGreater(fraction(amount), 0)
            self.assertLess(shares[source], 0)
            self.assertGreater(shares[target], 0)
            self.assertTrue(told_by_hand(pairs, source, target))
            sources[source] = sources.get(source, 0) + fraction(amount)
            targets[target] = targets.get(target, 0) + fraction(amount)
        self.assertEqual(sources, {name: -share for name, share in shares.items() if share < 0})
        for target in targets:
            self.assertLessEqual(targets[target], shares[target])
        self.assertEqual(len({(source, target) for source, target, _ in rows}), len(rows))

    def assert_never(self, one, other, pairs):
        self.assertIsNone(never_more(one, other, Known(pairs)))
        self.assert_carried(carried(one, other, Known(pairs)), one, other, pairs)

    def assert_sometimes(self, one, other, pairs):
        self.assert_more_at(never_more(one, other, Known(pairs)), one, other, pairs)
        self.assertIsNone(carried(one, other, Known(pairs)))

    def assert_is(self, never, one, other, pairs):
        if never:
            self.assert_never(one, other, pairs)
        else:
            self.assert_sometimes(one, other, pairs)


class NeverMoreTest(NeverMoreCase):
    def test_without_comparisons_it_is_the_shares(self):
        shares = [{}, {"a": 1}, {"b": 1}, {"a": 1, "b": 1}, {"a": 2}, {"a": Fraction(1, 2)}, {"a": -1},
                  {"a": 1, "b": -1}]
        for one, other in product([form_of(table) for table in shares], repeat=2):
            self.assert_is(one.at_most(other), one, other, [])

    def test_the_same_form(self):
        for shares in ({}, {"a": 1}, {"a": -1, "z": Fraction(1, 3)}):
            for pairs in ([], CHAIN, RING):
                self.assert_never(form_of(shares), form_of(shares), pairs)
                self.assertEqual(carried(form_of(shares), form_of(shares), Known(pairs)), [])

    def test_nothing_to_carry(self):
        self.assertEqual(carried(Form({"a": 1}), Form({"a": 2, "z": 1}), Known([])), [])
        self.assertEqual(carried(Form({"a": -1}), Form(), Known(CHAIN)), [])

    def test_along_a_chain(self):
        for low, high in product("abcd", repeat=2):
            self.assert_is(low <= high, Form.of(low), Form.of(high), CHAIN)

    def test_less_of_the_higher_name_is_not_enough(self):
        self.assert_never(Form({"a": 3}), Form({"d": 3}), CHAIN)
        self.assert_never(Form({"a": 3}), Form({"d": 4}), CHAIN)
        self.assert_sometimes(Form({"a": 3}), form_of({"d": Fraction(8, 3)}), CHAIN)
        self.assert_sometimes(form_of({"a": Fraction(BIG + 1, BIG)}), Form({"d": 1}), CHAIN)
        self.assert_never(form_of({"a": Fraction(BIG, BIG + 1)}), Form({"d": 1}), CHAIN)

    def test_several_targets_for_one_source(self):
        self.assert_never(Form({"a": 3}), Form({"b": 1, "c": 1, "d": 1}), CHAIN)
        self.assert_sometimes(Form({"b": 3}), Form({"a": 1, "c": 1, "d": 1}), CHAIN)

    def test_several_sources_for_one_target(self):
        self.assert_never(Form({"a": 1, "b": 1, "c": 1}), Form({"d": 3}), CHAIN)
        self.assert_never(Form({"a": 1, "b": 1, "c": 1}), Form({"d": 2, "a": 2}), CHAIN)
        self.assert_sometimes(Form({"a": 1, "b": 1, "c": 2}), Form({"d": 2, "a": 5}), CHAIN)

    def test_a_load_that_is_to_be_moved(self):
        pairs = [("a", "x"), ("a", "y"), ("b", "x"), ("c", "y"), ("c", "z")]
        self.assert_never(Form({"a": 1, "b": 1}), Form({"x": 1, "y": 1}), pairs)
        self.assert_never(Form({"a": 2, "b": 2, "c": 2}), Form({"x": 2, "y": 2, "z": 2}), pairs)
        self.assert_never(Form({"a": 2, "b": 1, "c": 3}), Form({"x": 2, "y": 2, "z": 2}), pairs)
        self.assert_sometimes(Form({"a": 2, "b": 3, "c": 1}), Form({"x": 2, "y": 2, "z": 9}), pairs)
        self.assert_sometimes(Form({"a": 3, "b": 2, "c": 1}), Form({"x": 2, "y": 2, "z": 9}), pairs)

    def test_loads_that_are_to_be_moved_one_after_another(self):
        for many in range(1, 7):
            lower, upper = "abcdefg"[:many], "mnopqrst"[:many + 1]
            pairs = [pair for at, low in enumerate(lower) for pair in [(low, upper[at]), (low, upper[at + 1])]]
            pairs.append(("h", "m"))
            one = Form({name: 3 for name in lower}) + Form({"h": 2})
            other = Form({name: 3 for name in upper[:-1]})
            self.assert_never(one, other + Form({upper[-1]: 2}), pairs)
            self.assert_never(one, other + Form({upper[-1]: 3}), pairs)
            self.assert_sometimes(one, other + Form({upper[-1]: 1}), pairs)
            self.assert_sometimes(one, other + Form({upper[-1]: 9}), pairs[:-2] + [("h", "m")])

    def test_shares_below_0(self):
        self.assert_never(Form({"b": -1}), Form({"a": -1}), CHAIN)
        self.assert_sometimes(Form({"a": -1}), Form({"b": -1}), CHAIN)
        self.assert_never(Form({"a": 1, "b": -1}), Form(), CHAIN)
        self.assert_sometimes(Form({"b": 1, "a": -1}), Form(), CHAIN)
        self.assert_never(Form(), Form({"b": 1, "a": -1}), CHAIN)
        self.assert_never(Form({"a": 1, "b": -2}), Form({"a": -1}), CHAIN)

    def test_in_a_ring_only_the_sum_counts(self):
        self.assert_never(Form({"a": 1, "b": 2}), Form({"c": 3}), RING)
        self.assert_never(Form({"c": 3}), Form({"a": 1, "b": 2}), RING)
        self.assert_sometimes(Form({"a": 2, "b": 2}), Form({"c": 3}), RING)

    def test_names_that_no_comparison_has(self):
        self.assert_sometimes(Form({"z": 1}), Form({"d": 9}), CHAIN)
        self.assert_sometimes(Form({"a": 1}), Form({"z": 9}), CHAIN)
        self.assert_never(Form({"a": 1}), Form({"b": 1, "z": 9}), CHAIN)
        self.assert_never(Form({"a": 1, "z": -1}), Form({"b": 1}), CHAIN)

    def test_the_prices_have_every_name(self):
        prices = never_more(Form({"a": 1, "y": 2}), Form({"y": 2, "x": 1}), Known([("b", "c")]))
        self.assertEqual(sorted(prices), ["a", "b", "c", "x", "y"])

    def test_all_small_forms_and_comparisons(self):
        closed_sets = [dict(zip("abc", prices)) for prices in product((0, 1), repeat=3)]
        forms = [dict(zip("abc", shares)) for shares in product((-2, -1, 0, 1, 2), repeat=3)]
        for pairs in [[], [("a", "b")], [("a", "b"), ("b", "c")], [("a", "c"), ("b", "c")], [("a", "b"), ("a", "c")],
                      RING, [("a", "b"), ("b", "a"), ("c", "b")]]:
            kept = [prices for prices in closed_sets if keeps(pairs, prices)]
            for shares in forms:
                never = all(sum(shares[name] * prices[name] for name in "abc") <= 0 for prices in kept)
                self.assert_is(never, Form(shares), Form(), pairs)

    def test_random_forms_and_comparisons(self):
        chance = random.Random(4)
        names = "abcdefg"
        seen = {True: 0, False: 0}
        for _ in range(300):
            pairs = [tuple(chance.choices(names, k=2)) for _ in range(chance.randint(0, 9))]
            one, other = [form_of({name: Fraction(chance.randint(-4, 4), chance.randint(1, 3)) for name in names})
                          for _ in range(2)]
            # Shares that are carried up the comparisons make forms that are never less likely to be seen.
            for low, high in chance.choices(pairs, k=12) if pairs else []:
                other = other + Form({high: 1}) - Form({low: 1})
            other = other + Form({name: chance.choice([0, 0, 0, 4, 8]) for name in names})
            shares = difference(one, other)
            tables = [dict(zip(names, prices)) for prices in product((0, 1), repeat=len(names))]
            never = all(sum(shares[name] * prices[name] for name in shares) >= 0
                        for prices in tables if keeps(pairs, prices))
            seen[never] += 1
            self.assert_is(never, one, other, pairs)
        self.assertGreater(min(seen.values()), 30)

    def test_large_and_fine_shares(self):
        one = form_of({"a": Fraction(BIG, 7), "b": Fraction(1, BIG)})
        other = form_of({"c": Fraction(BIG, 7), "d": Fraction(1, BIG)})
        self.assert_never(one, other, CHAIN)
        self.assert_sometimes(one + Form({"b": Ratio(1, BIG - 1)}), other, CHAIN)

    def test_many_names(self):
        chance = random.Random(5)
        names = [first + second for first, second in product("abcdefgh", repeat=2)]
        pairs = [tuple(sorted(chance.sample(names, 2))) for _ in range(150)]
        one, other = {}, {}
        for low, high in pairs:
            amount = Fraction(chance.randint(1, 1000), chance.randint(1, 9))
            one[low] = one.get(low, 0) + amount
            other[high] = other.get(high, 0) + amount
        self.assert_never(form_of(one), form_of(other), pairs)
        self.assert_sometimes(form_of(one) + Form({names[0]: Ratio(1, 10 ** 6)}), form_of(other), pairs)

    def test_arguments_stay_and_results_are_new(self):
        known = Known(CHAIN)
        one, other = Form({"a": 2, "b": 1}), Form({"b": 1, "d": 2})
        carried(one, other, known).clear()
        never_more(other, one, known).clear()
        self.assert_carried(carried(one, other, known), one, other, CHAIN)
        self.assert_more_at(never_more(other, one, known), other, one, CHAIN)
        self.assertEqual([difference(Form(), one), difference(Form(), other)], [{"a": 2, "b": 1}, {"b": 1, "d": 2}])
        self.assertEqual(known.names(), ["a", "b", "c", "d"])


class ClosedSetsTest(NeverMoreCase):
    """Point 31: prices of 1 in a closed set and 0 elsewhere keep the comparisons, and no others of 0 and 1 do."""

    def test_closed_sets(self):
        for pairs in some_pairs("abc"):
            known = Known(pairs)
            for prices in [dict(zip("abc", row)) for row in product((0, 1), repeat=3)]:
                dear = [name for name in prices if prices[name]]
                closed = all(high in dear for low in dear for high in prices if known.told(low, high))
                self.assertIs(keeps(pairs, prices), closed)

    def test_the_prices_of_never_more_are_such(self):
        for pairs in some_pairs("abc"):
            for low, high in product("abc", repeat=2):
                if not told_by_hand(pairs, low, high):
                    self.assert_sometimes(Form.of(low), Form.of(high), pairs)


if __name__ == "__main__":
    unittest.main()

"""Points 3, 4 and 35 to 38: bounds of prices, and the least and greatest values between them."""

import random
import unittest
from fractions import Fraction
from itertools import product

from helping import BIG, Case, closed_by_hand, form_of, fraction, keeps, names_of, ratio, table, told_by_hand
from helping import value_at
from lotcosts.errors import Contradiction, Negative
from lotcosts.forms import Form
from lotcosts.known import Known
from lotcosts.limits import Limits, greatest, least, levels
from lotcosts.ratios import Ratio

CHAIN = [("a", "b"), ("b", "c"), ("c", "d")]
RING = [("a", "b"), ("b", "c"), ("c", "a")]


def ratios(numbers):
    return {name: ratio(number) for name, number in numbers.items()}


def limits_of(pairs, low, high):
    return Limits(Known(pairs), low=ratios(low), high=ratios(high))


class LimitsTest(Case):
    def assert_contradiction(self, pairs, low, high):
        with self.assertRaises(Contradiction) as caught:
            limits_of(pairs, low, high)
        pair = caught.exception.pair
        self.assertIs(type(pair), tuple)
        one, other = pair
        self.assertTrue(told_by_hand(pairs, one, other) or one == other)
        self.assertGreater(low.get(one, 0), high[other])

    def test_bounds_are_told_as_they_were_passed(self):
        limits = Limits(Known(CHAIN), low={"a": 2, "c": Ratio(7, 2)}, high={"d": 9, "b": Ratio(5, 2), "z": 0})
        for name, low in {"a": 2, "b": 0, "c": Fraction(7, 2), "d": 0, "z": 0, "y": 0}.items():
            self.assert_ratio(limits.least_price(name), low)
        for name, high in {"b": Fraction(5, 2), "d": 9, "z": 0}.items():
            self.assert_ratio(limits.greatest_price(name), high)
        for name in ("a", "c", "y"):
            self.assertIsNone(limits.greatest_price(name))

    def test_known_is_the_object_that_was_passed(self):
        for pairs in ([], CHAIN):
            known = Known(pairs)
            self.assertIs(Limits(known).known, known)
            self.assertIs(Limits(known, low=None, high={"a": 1}).known, known)

    def test_without_bounds(self):
        for limits in (Limits(Known(CHAIN)), Limits(Known([]), low={}, high={})):
            self.assert_ratio(limits.least_price("a"), 0)
            self.assertIsNone(limits.greatest_price("a"))

    def test_bounds_are_passed_by_name(self):
        with self.assertRaises(TypeError):
            Limits(Known([]), {"a": 1})

    def test_the_dicts_stay_and_are_copied(self):
        low, high = {"a": 1}, {"b": 3}
        limits = Limits(Known(CHAIN), low=low, high=high)
        greatest(Form.of("a"), limits)
        self.assertEqual([low, high], [{"a": 1}, {"b": 3}])
        low["a"], high["b"], high["a"] = 9, 0, 0
        self.assert_ratio(limits.least_price("a"), 1)
        self.assert_ratio(limits.greatest_price("b"), 3)
        self.assertIsNone(limits.greatest_price("a"))
        self.assert_ratio(greatest(Form.of("a"), limits)[0], 3)

    def test_the_pairs_are_copied(self):
        pairs = [("a", "b")]
        limits = Limits(Known(pairs), low={"a": 2})
        pairs.append(("b", "c"))
        self.assert_ratio(least(Form.of("b"), limits)[0], 2)
        self.assert_ratio(least(Form.of("c"), limits)[0], 0)

    def test_the_least_name_with_a_number_below_0(self):
        cases = [({"c": -1, "b": Fraction(-1, 2), "a": 0}, {}, "b"), ({}, {"d": -1, "c": -2, "a": 5}, "c"),
                 ({"z": -1}, {"a": -1}, "z"), ({"z": Fraction(-1, BIG)}, {}, "z")]
        for low, high, name in cases:
            self.assert_error(Negative, {"name": name}, lambda: limits_of(CHAIN, low, high))

    def test_a_number_below_0_comes_before_a_contradiction(self):
        self.assert_error(Negative, {"name": "z"}, lambda: limits_of(CHAIN, {"a": 5}, {"b": 1, "z": -1}))
        self.assert_error(Negative, {"name": "b"}, lambda: limits_of(CHAIN, {"a": 5}, {"b": -1}))

    def test_contradictions(self):
        self.assert_contradiction([], {"a": 2}, {"a": 1})
        self.assert_contradiction(CHAIN, {"a": 2}, {"a": 9, "d": Fraction(3, 2)})
        self.assert_contradiction(CHAIN, {"b": 2, "a": 1}, {"c": 1})
        self.assert_contradiction(RING, {"b": 2}, {"a": 1})
        self.assert_contradiction(CHAIN, {"a": Fraction(BIG + 1, BIG)}, {"d": 1})
        self.assert_contradiction(CHAIN + [("d", "x"), ("x", "y")], {"d": 1}, {"y": 0})

    def test_bounds_that_do_not_contradict(self):
        cases = [([], {"a": 2}, {"a": 2}), (CHAIN, {"a": 2}, {"d": 2}), (CHAIN, {"d": 5}, {"a": 1}),
                 (CHAIN, {"c": 5}, {"b": 1}), (RING, {"a": 3}, {"b": 3}), ([], {"a": 9}, {"b": 1}),
                 (CHAIN, {}, {"d": 0}), (CHAIN, {"a": 0}, {"d": 0}), (CHAIN, {"a": 5}, {}), (CHAIN, {"z": 5}, {"d": 1}),
                 (CHAIN, {"a": Fraction(BIG, BIG + 1)}, {"d": 1})]
        for pairs, low, high in cases:
            limits = limits_of(pairs, low, high)
            for name in low:
                self.assert_ratio(limits.least_price(name), low[name])

    def test_all_small_bounds(self):
        for pairs in ([], CHAIN[:2], [("a", "c"), ("b", "c")], RING):
            for row in product((None, 0, 1, 2), repeat=6):
                low = {name: number for name, number in zip("abc", row) if number is not None}
                high = {name: number for name, number in zip("abc", row[3:]) if number is not None}
                wrong = any(low[one] > high[other] and told_by_hand(pairs, one, other) for one in low for other in high)
                if wrong:
                    self.assert_contradiction(pairs, low, high)
                else:
                    limits_of(pairs, low, high)


class GreatestCase(Case):
    """Values are compared with those of all allowed prices among the numbers of the bounds."""

    def names(self, form, pairs, low, high):
        return sorted({*form.names(), *names_of(pairs), *low, *high})

    def allowed(self, names, pairs, low, high):
        """All allowed prices among 0 and the numbers of the bounds; a greatest value stands at one of these."""
        steps = sorted({0, *low.values(), *high.values()})
        for row in product(steps, repeat=len(names)):
            prices = dict(zip(names, row))
            if keeps(pairs, prices) and all(low.get(name, 0) <= prices[name] for name in names):
                if all(prices[name] <= high[name] for name in high):
                    yield prices

    def assert_endless(self, told, names, sign, form, pairs, high):
        """The tuple tells names that raise the value, or lower it, without end."""
        value, found = told
        self.assertIs(type(told), tuple)
        self.assertIsNone(value)
        self.assertIs(type(found), list)
        self.assertEqual(found, sorted(set(found)))
        for name in found:
            self.assertIn(name, names)
            self.assertNotIn(name, high)
            self.assertTrue(all(other in found for other in names if told_by_hand(pairs, name, other)))
        self.assertGreater(sign * sum(table(form).get(name, 0) for name in found), 0)

    def assert_reached(self, told, value, form, names, pairs, low, high):
        """The tuple tells this value and allowed prices that give it."""
        self.assertIs(type(told), tuple)
        self.assert_ratio(told[0], value)
        prices = told[1]
        self.assertIs(type(prices), dict)
        self.assertEqual(sorted(prices), names)
        for price in prices.values():
            self.assertIn(type(price), (int, Ratio))
        self.assertTrue(keeps(pairs, prices))
        for name in names:
            self.assertGreaterEqual(fraction(prices[name]), low.get(name, 0))
        for name in high:
            self.assertLessEqual(fraction(prices[name]), high[name])
        self.assertEqual(value_at(form, prices), value)

    def assert_levels(self, rows, value, form, names, pairs, low, high):
        """The rows are those that point 38 tells."""
        shares = table(form)
        self.assertIs(type(rows), list)
        steps = sorted({0, *low.values(), *high.values()})
        self.assertEqual(len(rows), len(steps) - 1)
        closed = list(closed_by_hand(pairs, names))
        total, before = 0, set(names)
        for (lower, upper, found), start, end in zip(rows, steps, steps[1:]):
            self.assert_ratio(lower, start)
            self.assert_ratio(upper, end)
            self.assertIs(type(found), list)
            self.assertEqual(found, sorted(set(found)))
            sets = [chosen for chosen in closed if all(name in chosen for name in low if low[name] >= end)
                    and not any(name in chosen for name in high if high[name] <= start)]
            sums = [sum(shares.get(name, 0) for name in chosen) for chosen in sets]
            best = [chosen for chosen, count in zip(sets, sums) if count == max(sums)]
            self.assertIn(set(found), best)
            self.assertTrue(all(chosen <= set(found) for chosen in best))
            self.assertLessEqual(set(found), before)
            before = set(found)
            total += (end - start) * max(sums)
        self.assertEqual(total, value)

    def assert_right(self, form, pairs, low, high):
        """Check greatest, least and levels; return whether there is a greatest value."""
        names = self.names(form, pairs, low, high)
        limits = limits_of(pairs, low, high)
        shares = table(form)
        values = [value_at(form, prices) for prices in self.allowed(names, pairs, low, high)]
        free = [sum(shares.get(name, 0) for name in chosen) for chosen in closed_by_hand(pairs, names)
                if not any(name in high for name in chosen)]
        if max(free) > 0:
            self.assert_endless(greatest(form, limits), names, 1, form, pairs, high)
            self.assertIsNone(levels(form, limits))
        else:
            self.assert_reached(greatest(form, limits), max(values), form, names, pairs, low, high)
            self.assert_levels(levels(form, limits), max(values), form, names, pairs, low, high)
        if min(free) < 0:
            self.assert_endless(least(form, limits), names, -1, form, pairs, high)
        else:
            self.assert_reached(least(form, limits), min(values), form, names, pairs, low, high)
        return max(free) <= 0


class GreatestTest(GreatestCase):
    def test_one_name(self):
        for share in (-2, 0, 1, Fraction(1, 3)):
            for low in ({}, {"a": 0}, {"a": 2}, {"a": Fraction(1, 2)}):
                for high in ({}, {"a": 2}, {"a": 7}):
                    self.assert_right(form_of({"a": share}), [], low, high)

    def test_equal_bounds(self):
        self.assert_right(Form({"a": 3, "b": -2}), [], {"a": 2, "b": 5}, {"a": 2, "b": 5})
        self.assert_right(Form({"a": 3, "b": -2}), CHAIN, {"a": 2}, {"d": 2})
        told = greatest(Form({"a": 3, "b": -2}), limits_of(CHAIN, {"a": 2}, {"d": 2}))
        self.assert_ratio(told[0], 2)

    def test_bounds_of_0(self):
        self.assert_right(Form({"a": 3}), [], {"a": 0}, {"a": 0})
        self.assert_right(Form({"a": 3, "b": 1}), CHAIN, {}, {"d": 0})
        self.assertEqual(levels(Form.of("a"), limits_of([], {"a": 0}, {"a": 0})), [])

    def test_the_form_without_shares(self):
        for pairs in ([], CHAIN, RING):
            self.assert_right(Form(), pairs, {}, {})
            self.assert_right(Form(), pairs, {"a": 1, "z": 3}, {"b": 2, "y": 4})

    def test_without_bounds(self):
        for shares in ({}, {"a": 1}, {"a": -1}, {"a": 1, "b": -1}, {"a": -1, "b": 1}, {"d": -1, "b": 1}):
            for pairs in ([], CHAIN, RING):
                bounded = self.assert_right(Form(shares), pairs, {}, {})
                self.assertEqual(levels(Form(shares), limits_of(pairs, {}, {})), [] if bounded else None)

    def test_a_bound_that_follows_along_a_chain(self):
        self.assert_ratio(greatest(Form.of("a"), limits_of(CHAIN, {}, {"d": 7}))[0], 7)
        self.assert_ratio(least(Form.of("d"), limits_of(CHAIN, {"a": 7}, {}))[0], 7)
        self.assert_ratio(greatest(Form({"a": 1, "d": -1}), limits_of(CHAIN, {}, {}))[0], 0)
        self.assert_right(Form({"a": 1, "c": 2}), CHAIN, {"b": 1}, {"d": 7, "b": 5})

    def test_rings(self):
        for shares in ({"a": 1}, {"a": 1, "b": -1}, {"a": 2, "b": -1, "c": 1}, {"a": -3, "z": 1}):
            self.assert_right(Form(shares), RING, {"a": 1}, {"b": 4})
            self.assert_right(Form(shares), RING + [("c", "z")], {"a": 1}, {"z": 4})
            self.assert_right(Form(shares), RING, {"c": 1}, {})

    def test_names_with_one_bound_and_with_none(self):
        form = Form({"a": 2, "b": -1, "c": 1, "d": -2})
        for low, high in [({"a": 1}, {}), ({}, {"a": 1}), ({"d": 1}, {"a": 3}), ({"a": 1, "b": 2}, {"c": 4}),
                          ({"b": 2}, {"a": 1, "c": 3}), ({"z": 2}, {"c": 3})]:
            for pairs in ([], CHAIN, [("a", "c"), ("b", "c")], [("d", "a"), ("c", "b")]):
                self.assert_right(form, pairs, low, high)

    def test_names_that_only_the_bounds_or_the_comparisons_have(self):
        value, prices = greatest(Form.of("a"), limits_of([("y", "x")], {"v": 2}, {"a": 3, "w": 1}))
        self.assert_ratio(value, 3)
        self.assertEqual(sorted(prices), ["a", "v", "w", "x", "y"])
        self.assert_right(Form.of("a"), [("y", "x")], {"v": 2}, {"a": 3, "w": 1})

    def test_levels_have_names_without_a_share_where_they_may_be(self):
        rows = levels(Form.of("a"), limits_of([("y", "x")], {"v": 2}, {"a": 3, "w": 1}))
        self.assertEqual([names for _, _, names in rows],
                         [["a", "v", "w", "x", "y"], ["a", "v", "x", "y"], ["a", "v", "x", "y"]])

    def test_greatest_without_end(self):
        told = greatest(Form({"a": 1, "b": -1}), limits_of([("a", "c")], {}, {"b": 2}))
        self.assert_endless(told, ["a", "b", "c"], 1, Form({"a": 1, "b": -1}), [("a", "c")], {"b": 2})
        self.assert_right(Form({"a": 1, "c": -1, "d": 1}), CHAIN, {}, {"b": 2})
        self.assert_right(Form({"a": 5, "c": -1}), CHAIN, {}, {"b": 2})

    def test_least_without_end(self):
        told = least(Form({"a": -1, "b": 1}), limits_of([("a", "c")], {}, {"b": 2}))
        self.assert_endless(told, ["a", "b", "c"], -1, Form({"a": -1, "b": 1}), [("a", "c")], {"b": 2})

    def test_small_forms(self):
        cases = [(CHAIN[:2], {"b": 1}, {"c": 2}), ([("a", "c"), ("b", "c")], {"a": 2}, {"b": 1}),
                 ([("a", "b"), ("a", "c")], {}, {"b": 1, "c": 3}), (RING, {"a": 1}, {"b": 2})]
        for pairs, low, high in cases:
            for row in product((-2, -1, 0, 1, 2), repeat=3):
                self.assert_right(Form(dict(zip("abc", row))), pairs, low, high)

    def test_random_forms_and_bounds(self):
        chance = random.Random(11)
        seen = {True: 0, False: 0}
        for _ in range(250):
            names = "abcde"
            pairs = [tuple(chance.sample(names, 2)) for _ in range(chance.randint(0, 6))]
            numbers = chance.sample([Fraction(1), Fraction(2), Fraction(7, 3), Fraction(5), Fraction(1, 2)], 2)
            base = {name: chance.choice(numbers + [Fraction(0)]) for name in names}
            # Least prices that keep the comparisons, so that bounds around them never contradict each other.
            for _ in names:
                base = {name: max([base[name]] + [base[low] for low, high in pairs if high == name]) for name in names}
            low = {name: chance.choice([number for number in numbers + [Fraction(0)] if number <= base[name]])
                   for name in names if chance.random() < 0.5}
            high = {name: base[name] + chance.choice((0, 0, 1)) for name in names if chance.random() < 0.7}
            form = form_of({name: Fraction(chance.randint(-4, 4), chance.randint(1, 3)) for name in names})
            seen[self.assert_right(form, pairs, low, high)] += 1
        self.assertGreater(min(seen.values()), 40)

    def test_large_and_fine_bounds(self):
        low, high = {"a": Fraction(1, BIG)}, {"d": Fraction(BIG, 7)}
        form = form_of({"a": Fraction(BIG, 3), "d": -BIG})
        self.assert_right(form, CHAIN, low, high)
        self.assert_right(-form, CHAIN, low, high)

    def test_many_names_and_bounds(self):
        names = [first + second for first, second in product("abcdefghijklmno", repeat=2)]
        pairs = list(zip(names, names[1:]))
        low = {name: Fraction(at, 3) for at, name in enumerate(names) if at % 3 == 0}
        high = {name: at + 40 for at, name in enumerate(names) if at % 4 == 0 or name == names[-1]}
        form = form_of({name: (at * 7919) % 211 - 105 for at, name in enumerate(names)})
        limits = limits_of(pairs, low, high)
        value, prices = greatest(form, limits)
        rows = levels(form, limits)
        shares = table(form)
        bound = sum((fraction(upper) - fraction(lower)) * sum(shares.get(name, 0) for name in found)
                    for lower, upper, found in rows)
        self.assertEqual(fraction(value), bound)
        self.assertEqual(value_at(form, prices), bound)
        self.assertTrue(keeps(pairs, prices))
        self.assertTrue(all(fraction(prices[name]) >= low[name] for name in low))
        self.assertTrue(all(fraction(prices[name]) <= high[name] for name in high))
        # Of a chain, the closed sets are its ends, so each level can be searched whole.
        for lower, upper, found in rows:
            first = max([at for at, name in enumerate(names) if high.get(name, BIG) <= fraction(lower)], default=-1)
            last = min([at for at, name in enumerate(names) if low.get(name, 0) >= fraction(upper)] + [len(names)])
            sums = {at: sum(shares.get(name, 0) for name in names[at:]) for at in range(first + 1, last + 1)}
            self.assertEqual(found, names[min(at for at in sums if sums[at] == max(sums.values())):])

    def test_results_are_new_and_arguments_stay(self):
        limits = limits_of(CHAIN, {"a": 1}, {"d": 5})
        form = Form({"a": 2, "b": -1})
        greatest(form, limits)[1].clear()
        least(form, limits)[1].clear()
        levels(form, limits)[0][2].clear()
        levels(form, limits).clear()
        greatest(-Form.of("z"), limits)[1].clear()
        greatest(Form.of("z"), limits)[1].clear()
        self.assertEqual(greatest(Form.of("z"), limits), (None, ["z"]))
        self.assert_right(form, CHAIN, {"a": 1}, {"d": 5})
        self.assert_levels(levels(form, limits), 5, form, ["a", "b", "c", "d"], CHAIN, {"a": 1}, {"d": 5})
        self.assertEqual(table(form), {"a": 2, "b": -1})


if __name__ == "__main__":
    unittest.main()

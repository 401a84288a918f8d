"""Points 3, 4 and 68 to 73: what shown costs tell."""

import random
import unittest
from fractions import Fraction
from itertools import combinations, product

from helping import BIG, Case, form_of, fraction, ratio, table
from lotcosts.errors import NotTold, Unfit
from lotcosts.forms import Form
from lotcosts.known import Known, never_more
from lotcosts.ratios import Ratio
from lotcosts.shown import Shown, fewest_comparisons

A, B, C, D = [Form.of(name) for name in "abcd"]
ZERO = Form()
LISTS = [
    [],
    [ZERO],
    [A],
    [A + B, A - B],
    [A + B, B + C],
    [A + B, B + C, A - C],
    [A, 2 * A, B],
    [A + B + C, A, ZERO, B + C],
    [A - B, B - C, C - D, D - A],
    [form_of({"a": Fraction(1, 3), "b": Fraction(-2, 7)}), B, C + D],
    [A + 2 * B + 3 * C, 2 * A + B, A - B - 3 * C, C + D],
    [A, A, A],
]
ASKED = [ZERO, A, B, A + B, A - C, 2 * A + 3 * B - C, D, Form.of("z"), A + B + C + D,
         form_of({"a": Fraction(1, 7), "b": Fraction(-5, 3)}), A - Form.of("z")]


def rank(tables):
    """The rank of rows of shares, worked out with fractions from the last names on."""
    rows = [dict(shares) for shares in tables if shares]
    count = 0
    while rows:
        pivot = rows.pop()
        name = max(pivot)
        count += 1
        reduced = []
        for row in rows:
            if name in row:
                factor = row[name] / pivot[name]
                row = {key: row.get(key, 0) - factor * pivot.get(key, 0) for key in {*row, *pivot}}
                row = {key: share for key, share in row.items() if share}
            if row:
                reduced.append(row)
        rows = reduced
    return count


def tells(forms, asked):
    """Whether the asked form is a sum of the forms, each times a weight."""
    tables = [table(form) for form in forms]
    return rank(tables + [table(asked)]) == rank(tables)


def names_of(forms):
    return sorted({name for form in forms for name in form.names()})


def weighed(forms, weights):
    """The sum of the forms, each times its weight, as a table."""
    total = {}
    for form, weight in zip(forms, weights):
        for name, share in table(form).items():
            total[name] = total.get(name, 0) + share * fraction(weight)
    return {name: share for name, share in total.items() if share}


def fewest(many, holds):
    """The least number of numbers below `many` for which this holds, or None."""
    sizes = [size for size in range(many + 1) for numbers in combinations(range(many), size) if holds(numbers)]
    return min(sizes, default=None)


def random_forms(chance, many, names, most=2):
    return [form_of({name: Fraction(chance.randint(-most, most), chance.randint(1, most)) for name in names
                     if chance.random() < 0.7}) for _ in range(many)]


class ShownCase(Case):
    def assert_ratios(self, numbers, many):
        self.assertIs(type(numbers), list)
        self.assertEqual([type(number) for number in numbers], [Ratio] * many)

    def assert_told(self, forms, asked):
        """Check weights and unseen; return whether the asked form can be worked out."""
        shown = Shown(forms)
        weights, change = shown.weights(asked), shown.unseen(asked)
        if tells(forms, asked):
            self.assert_ratios(weights, len(forms))
            self.assertEqual(weighed(forms, weights), table(asked))
            self.assertIsNone(change)
            return True
        self.assertIsNone(weights)
        self.assertIs(type(change), dict)
        self.assertEqual(sorted(change), names_of(forms + [asked]))
        self.assert_ratios(list(change.values()), len(change))
        moves = [sum(share * fraction(change[name]) for name, share in table(form).items()) for form in forms + [asked]]
        self.assertEqual(moves[:-1], [0] * len(forms))
        self.assertNotEqual(moves[-1], 0)
        return False

    def assert_numbers(self, numbers, many, size):
        """The value is an ascending list of so many numbers, or None."""
        if size is None:
            self.assertIsNone(numbers)
            return
        self.assertIs(type(numbers), list)
        self.assertEqual([type(number) for number in numbers], [int] * size)
        self.assertEqual(numbers, sorted(set(numbers)))
        self.assertTrue(all(0 <= number < many for number in numbers))


class WeightsTest(ShownCase):
    def test_every_list(self):
        for forms, asked in product(LISTS, ASKED):
            self.assert_told(forms, asked)
            self.assert_told(forms, 5 * asked)

    def test_sums_of_shown_forms(self):
        for forms in LISTS:
            total = ZERO
            for at, form in enumerate(forms):
                total = total + form * Ratio(at - 2, at + 3)
                self.assertTrue(self.assert_told(forms, total))

    def test_no_shown_forms(self):
        self.assertEqual([Shown([]).weights(ZERO), Shown([]).unseen(ZERO)], [[], None])
        self.assertFalse(self.assert_told([], A))
        self.assertFalse(self.assert_told([ZERO], A))

    def test_the_form_without_shares(self):
        for forms in LISTS:
            self.assertTrue(self.assert_told(forms, ZERO))

    def test_random_forms(self):
        chance = random.Random(71)
        seen = {True: 0, False: 0}
        for _ in range(300):
            names = "abcdefgh"[:chance.randint(1, 8)]
            forms = random_forms(chance, chance.randint(0, 6), names)
            asked = random_forms(chance, 1, names)[0]
            if chance.random() < 0.5 and forms:
                asked = sum([form * chance.randint(-2, 2) for form in forms], ZERO)
            seen[self.assert_told(forms, asked)] += 1
        self.assertGreater(min(seen.values()), 60)

    def test_long_shares(self):
        forms = [form_of({"a": BIG, "b": Fraction(1, BIG)}), form_of({"b": BIG - 1, "c": Fraction(BIG, 3)})]
        self.assertTrue(self.assert_told(forms, forms[0] * BIG - forms[1].over(BIG)))
        self.assertFalse(self.assert_told(forms, forms[0] + form_of({"c": Fraction(1, BIG)})))

    def test_many_forms(self):
        chance = random.Random(72)
        names = [first + second for first in "abcde" for second in "abcdefgh"]
        forms = random_forms(chance, 30, names, 5)
        asked = sum([form * chance.randint(-3, 3) for form in forms], ZERO)
        self.assertTrue(self.assert_told(forms, asked))
        self.assertFalse(self.assert_told(forms, asked + Form.of("aa")))
        chain = [Form({low: 1, high: -1}) for low, high in zip(names, names[1:])]
        self.assertTrue(self.assert_told(chain, Form({names[0]: 1, names[-1]: -1})))
        self.assertFalse(self.assert_told(chain, Form({names[0]: 1})))

    def test_results_are_new_and_arguments_stay(self):
        forms = [A + B, B + C]
        shown = Shown(forms)
        shown.weights(A - C).clear()
        shown.unseen(A).clear()
        shown.needless().clear()
        shown.prices_told().clear()
        self.assertEqual(weighed([A + B, B + C], shown.weights(A - C)), table(A - C))
        self.assertEqual(sorted(shown.unseen(A)), ["a", "b", "c"])
        self.assertEqual(len(forms), 2)
        forms.append(A)
        forms[0] = A
        self.assertIsNone(shown.weights(A))
        self.assertEqual(len(shown.weights(A - C)), 2)


class NeedlessTest(ShownCase):
    def test_every_list(self):
        chance = random.Random(73)
        for forms in LISTS + [random_forms(chance, chance.randint(1, 6), "abcd") for _ in range(80)]:
            needless = Shown(forms).needless()
            self.assertIs(type(needless), list)
            self.assertEqual(needless, [at for at, form in enumerate(forms) if tells(forms[:at] + forms[at + 1:], form)])
            told = Shown(forms).prices_told()
            self.assertIs(type(told), list)
            self.assertEqual(told, [name for name in names_of(forms) if tells(forms, Form.of(name))])

    def test_by_hand(self):
        shown = Shown([A + B, B, C + D, 2 * A, ZERO])
        self.assertEqual([shown.needless(), shown.prices_told()], [[0, 1, 3, 4], ["a", "b"]])
        self.assertEqual([Shown([]).needless(), Shown([]).prices_told()], [[], []])
        self.assertEqual([Shown([ZERO]).needless(), Shown([A]).needless(), Shown([A, A]).needless()], [[0], [], [0, 1]])


class ValueTest(ShownCase):
    def values_at(self, forms, prices):
        return [ratio(sum((share * prices[name] for name, share in table(form).items()), Fraction(0))) for form in forms]

    def test_values_that_prices_give(self):
        chance = random.Random(74)
        for forms, asked in product(LISTS, ASKED):
            prices = {name: Fraction(chance.randint(-9, 9), chance.randint(1, 4)) for name in "abcdz"}
            values = self.values_at(forms, prices)
            before = [fraction(value) for value in values]
            if tells(forms, asked):
                self.assert_ratio(Shown(forms).value(asked, values), fraction(self.values_at([asked], prices)[0]))
            else:
                self.assert_error(NotTold, {}, lambda: Shown(forms).value(asked, values))
            self.assertEqual([fraction(value) for value in values], before)

    def test_integers(self):
        self.assert_ratio(Shown([A + B, A - B]).value(B, [9, 1]), 4)
        self.assert_ratio(Shown([A + B, A - B]).value(A, [9, 2]), Fraction(11, 2))
        self.assert_ratio(Shown([2 * A]).value(A, [BIG]), Fraction(BIG, 2))
        self.assert_ratio(Shown([]).value(ZERO, []), 0)
        self.assert_ratio(Shown([ZERO]).value(ZERO, [0]), 0)

    def test_values_of_prices_of_any_sign_fit(self):
        self.assert_ratio(Shown([A, B]).value(A + B, [-5, 2]), -3)

    def assert_unfit(self, forms, values, asked):
        with self.assertRaises(Unfit) as caught:
            Shown(forms).value(asked, values)
        factors = caught.exception.factors
        self.assert_ratios(factors, len(forms))
        self.assertEqual(weighed(forms, factors), {})
        self.assertNotEqual(sum(fraction(factor) * fraction(value) for factor, value in zip(factors, values)), 0)

    def test_values_that_no_prices_give(self):
        self.assert_unfit([A, A], [1, 2], A)
        self.assert_unfit([ZERO], [1], A)
        self.assert_unfit([A, ZERO], [1, Ratio(-1, BIG)], A)
        self.assert_unfit([A + B, B + C, A - C], [3, 1, 1], A)
        # Also where the asked form cannot be worked out, and where it needs none of these.
        self.assert_unfit([A, A, B], [1, 2, 0], Form.of("z"))
        self.assert_unfit([A, A, B], [1, 2, 5], B)
        self.assert_unfit([A, A], [1, 2], ZERO)

    def test_random_values(self):
        chance = random.Random(75)
        seen = {True: 0, False: 0}
        for _ in range(300):
            forms = random_forms(chance, chance.randint(1, 5), "abc")
            prices = {name: Fraction(chance.randint(-3, 3)) for name in "abc"}
            values = self.values_at(forms, prices)
            at = chance.randrange(len(forms))
            values[at] = values[at] + chance.choice([0, 1])
            # The values fit if as another column they leave the rank as it is.
            tables = [table(form) for form in forms]
            columns = [{**shares, "value": fraction(value)} for shares, value in zip(tables, values)]
            columns = [{name: share for name, share in row.items() if share} for row in columns]
            fits = rank(columns) == rank(tables)
            seen[fits] += 1
            if not fits:
                self.assert_unfit(forms, values, chance.choice(ASKED))
            else:
                self.assert_ratio(Shown(forms).value(forms[at] * 3, values), 3 * fraction(values[at]))
        self.assertGreater(min(seen.values()), 50)

    def test_factors_are_new(self):
        shown = Shown([A, A])
        for _ in range(2):
            with self.assertRaises(Unfit) as caught:
                shown.value(A, [1, 2])
            self.assertEqual(len(caught.exception.factors), 2)
            caught.exception.factors.clear()
        self.assertEqual(len(shown.weights(A)), 2)


class FewestTest(ShownCase):
    def assert_more(self, forms, asked, further):
        numbers = Shown(forms).fewest_more(asked, further)
        holds = lambda chosen: tells(forms + [further[number] for number in chosen], asked)
        size = fewest(len(further), holds)
        self.assert_numbers(numbers, len(further), size)
        self.assertTrue(numbers is None or holds(numbers))
        return size

    def assert_hidden(self, forms, asked):
        numbers = Shown(forms).fewest_hidden(asked)
        holds = lambda chosen: not tells([form for at, form in enumerate(forms) if at not in chosen], asked)
        size = fewest(len(forms), holds)
        self.assert_numbers(numbers, len(forms), size)
        self.assertTrue(numbers is None or holds(numbers))
        return size

    def test_more(self):
        self.assertEqual(Shown([A + B]).fewest_more(A, [C, A - C, B + D, D, B]), [4])
        self.assertEqual(Shown([A + B]).fewest_more(A, [C, A - C, B + D, A]), [3])
        self.assertEqual(Shown([A + B]).fewest_more(A, [C, D, A - C]), [0, 2])
        self.assertEqual(Shown([A + B]).fewest_more(2 * A + 2 * B, [A]), [])
        self.assertEqual(Shown([]).fewest_more(ZERO, []), [])
        self.assertIsNone(Shown([A + B]).fewest_more(A, []))
        self.assertIsNone(Shown([A + B]).fewest_more(A, [C, D, ZERO, A + B]))

    def test_hidden(self):
        self.assertEqual(Shown([A, B]).fewest_hidden(A), [0])
        self.assertEqual(Shown([B, C]).fewest_hidden(A), [])
        self.assertEqual(Shown([]).fewest_hidden(A), [])
        self.assertEqual(Shown([A, B, A]).fewest_hidden(A), [0, 2])
        self.assertEqual(Shown([A, A, A]).fewest_hidden(2 * A), [0, 1, 2])
        for forms in LISTS:
            self.assertIsNone(Shown(forms).fewest_hidden(ZERO))

    def test_every_list(self):
        for forms, asked in product(LISTS, ASKED):
            self.assert_hidden(forms, asked)
            self.assert_more(forms, asked, [A - D, B + C, D, C - A, Form.of("z")])

    def test_random_forms(self):
        chance = random.Random(76)
        sizes = {}
        for _ in range(60):
            names = "abcde"
            forms = random_forms(chance, chance.randint(0, 3), names)
            further = random_forms(chance, chance.randint(0, 5), names)
            asked = random_forms(chance, 1, names)[0]
            size = self.assert_more(forms, asked, further), self.assert_hidden(forms + further[:3], asked)
            sizes[size] = sizes.get(size, 0) + 1
        self.assertGreater(len(sizes), 5)

    def test_8_forms(self):
        steps = [Form({low: 1, high: -1}) for low, high in zip("abcdefgh", "bcdefghi")]
        self.assertEqual(Shown([]).fewest_more(A - Form.of("i"), steps), list(range(8)))
        self.assertEqual(len(Shown(steps).fewest_hidden(A - Form.of("i"))), 1)
        self.assertEqual(Shown([A] * 8).fewest_hidden(A), list(range(8)))
        self.assertIsNone(Shown([A + B]).fewest_more(Form.of("z"), steps))
        several = [A + B, B + C, C + D, A - C, B - D, A + D, A + B + C, D]
        self.assert_more([A + B + C + D], A, several)
        self.assert_hidden(several, A)

    def test_the_list_of_further_forms_stays(self):
        further = [C, D, A - C]
        shown = Shown([A + B])
        shown.fewest_more(A, further).clear()
        self.assertEqual([shown.fewest_more(A, further), len(further)], [[0, 2], 3])
        shown.fewest_hidden(A + B).clear()
        self.assertEqual(shown.fewest_hidden(A + B), [0])


class FewestComparisonsTest(ShownCase):
    def assert_comparisons(self, one, other, pairs, further):
        known = Known(pairs)
        numbers = fewest_comparisons(one, other, known, further)
        holds = lambda chosen: never_more(one, other, Known(pairs + [further[number] for number in chosen])) is None
        size = fewest(len(further), holds)
        self.assert_numbers(numbers, len(further), size)
        self.assertTrue(numbers is None or holds(numbers))
        self.assertEqual(known.names(), Known(pairs).names())
        return size

    def test_by_hand(self):
        self.assertEqual(fewest_comparisons(A, B, Known([]), [("a", "b")]), [0])
        self.assertEqual(fewest_comparisons(A, B, Known([]), [("b", "a"), ("a", "c"), ("c", "b")]), [1, 2])
        self.assertEqual(fewest_comparisons(A, B, Known([]), [("a", "c"), ("c", "b"), ("a", "b")]), [2])
        self.assertEqual(fewest_comparisons(A, B, Known([("a", "b")]), [("a", "b")]), [])
        self.assertEqual(fewest_comparisons(A, A + B, Known([]), []), [])
        self.assertIsNone(fewest_comparisons(A + A, B, Known([]), [("a", "b"), ("b", "a")]))
        self.assertIsNone(fewest_comparisons(A, B, Known([]), []))
        self.assertIsNone(fewest_comparisons(A, ZERO, Known([]), [("a", "b")]))

    def test_known_comparisons_are_used(self):
        self.assertEqual(fewest_comparisons(A, B, Known([("c", "b")]), [("a", "a"), ("a", "c"), ("c", "d")]), [1])

    def test_8_comparisons(self):
        steps = list(zip("abcdefgh", "bcdefghi"))
        self.assertEqual(fewest_comparisons(A, Form.of("i"), Known([]), steps), list(range(8)))
        self.assertIsNone(fewest_comparisons(Form.of("i"), A, Known([]), steps))
        self.assertEqual(fewest_comparisons(A + B, C + D, Known([("x", "d")]), [("a", "c"), ("b", "x"), ("b", "c"),
                                            ("a", "y"), ("y", "d"), ("d", "a"), ("x", "x"), ("a", "b")]), [0, 1])

    def test_random_forms(self):
        chance = random.Random(77)
        sizes = {}
        for _ in range(150):
            pairs = [tuple(chance.sample("abcde", 2)) for _ in range(chance.randint(0, 2))]
            further = [tuple(chance.sample("abcde", 2)) for _ in range(chance.randint(0, 5))]
            one = Form({name: chance.randint(0, 2) for name in "abc"})
            other = one + Form({name: chance.choice([0, 0, 0, 0, 1, -1]) for name in "abcde"})
            for low, high in chance.sample(further, min(len(further), 2)):
                one, other = one + Form.of(low), other + Form.of(high)
            size = self.assert_comparisons(one, other, pairs, further)
            sizes[size] = sizes.get(size, 0) + 1
        self.assertGreater(len(sizes), 3)
        self.assertGreater(sizes.get(2, 0), 10)

    def test_arguments_stay(self):
        pairs, further = [("c", "b")], [("a", "c")]
        known = Known(pairs)
        fewest_comparisons(A, B, known, further).clear()
        self.assertEqual([pairs, further, known.names(), known.told("a", "b")],
                         [[("c", "b")], [("a", "c")], ["b", "c"], False])


if __name__ == "__main__":
    unittest.main()

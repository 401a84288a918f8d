"""Points 3 and 5 to 8: ratios."""

import unittest
from fractions import Fraction

from lotcosts.errors import NoRatio
from lotcosts.ratios import Ratio

BIG = 10 ** 50 - 1

# Some numbers of each sign, equal ones and opposite ones among them, as (top, bottom).
PAIRS = [
    (0, 1), (0, -7), (1, 1), (-1, 1), (1, 2), (-1, 2), (2, 4), (3, -6), (5, 2), (-5, 2),
    (7, 3), (-7, 3), (-14, -6), (6, 3), (-6, 3), (BIG, 3), (-BIG, 7), (1, BIG), (-1, BIG), (BIG - 1, -BIG),
]
INTEGERS = [0, 1, -1, 2, -2, 3, BIG, -BIG]


def exact(pair):
    return Fraction(*pair)


def number_of(ratio):
    return (ratio.top, ratio.bottom)


class RatioCase(unittest.TestCase):
    def assert_is(self, ratio, expected):
        """The value is a ratio in lowest terms, and the expected number."""
        self.assertIs(type(ratio), Ratio)
        self.assertIs(type(ratio.top), int)
        self.assertIs(type(ratio.bottom), int)
        self.assertEqual(number_of(ratio), (Fraction(expected).numerator, Fraction(expected).denominator))

    def assert_no_ratio(self, deed):
        with self.assertRaises(NoRatio):
            deed()


class MakingTest(RatioCase):
    def test_lowest_terms_and_bottom_above_0(self):
        for pair in PAIRS:
            self.assert_is(Ratio(*pair), exact(pair))

    def test_negative_bottom(self):
        self.assertEqual(number_of(Ratio(3, -6)), (-1, 2))
        self.assertEqual(number_of(Ratio(-3, -6)), (1, 2))
        self.assertEqual(number_of(Ratio(3, -1)), (-3, 1))

    def test_zero_has_the_bottom_1(self):
        for bottom in (1, 5, -5, BIG, -BIG):
            self.assertEqual(number_of(Ratio(0, bottom)), (0, 1))

    def test_bottom_is_1_if_left_out(self):
        for top in INTEGERS:
            self.assertEqual(number_of(Ratio(top)), (top, 1))

    def test_bottom_0(self):
        for top in INTEGERS:
            self.assert_no_ratio(lambda: Ratio(top, 0))


class CountingTest(RatioCase):
    def test_two_ratios(self):
        for one in PAIRS:
            for other in PAIRS:
                a, b = Ratio(*one), Ratio(*other)
                self.assert_is(a + b, exact(one) + exact(other))
                self.assert_is(a - b, exact(one) - exact(other))
                self.assert_is(a * b, exact(one) * exact(other))
                self.assertEqual((number_of(a), number_of(b)), (number_of(Ratio(*one)), number_of(Ratio(*other))))

    def test_integers_on_either_side(self):
        for pair in PAIRS:
            for number in INTEGERS:
                a = Ratio(*pair)
                self.assert_is(a + number, exact(pair) + number)
                self.assert_is(number + a, exact(pair) + number)
                self.assert_is(a - number, exact(pair) - number)
                self.assert_is(number - a, number - exact(pair))
                self.assert_is(a * number, exact(pair) * number)
                self.assert_is(number * a, exact(pair) * number)

    def test_negated_and_without_sign(self):
        for pair in PAIRS:
            self.assert_is(-Ratio(*pair), -exact(pair))
            self.assert_is(abs(Ratio(*pair)), abs(exact(pair)))

    def test_over(self):
        for one in PAIRS:
            for other in PAIRS:
                if exact(other) != 0:
                    self.assert_is(Ratio(*one).over(Ratio(*other)), exact(one) / exact(other))
            for number in INTEGERS:
                if number != 0:
                    self.assert_is(Ratio(*one).over(number), exact(one) / number)

    def test_over_0(self):
        for pair in PAIRS:
            self.assert_no_ratio(lambda: Ratio(*pair).over(0))
            self.assert_no_ratio(lambda: Ratio(*pair).over(Ratio(0)))
            self.assert_no_ratio(lambda: Ratio(*pair).over(Ratio(0, -3)))

    def test_an_error_changes_nothing(self):
        a, zero = Ratio(3, 4), Ratio(0)
        self.assert_no_ratio(lambda: a.over(zero))
        self.assertEqual([number_of(a), number_of(zero)], [(3, 4), (0, 1)])

    def test_in_place_signs_make_new_ratios(self):
        for by, number in ((Ratio(1, 3), Fraction(1, 3)), (2, 2)):
            a = first = Ratio(1, 2)
            a += by
            second = a
            a -= by
            third = a
            a *= by
            self.assert_is(first, Fraction(1, 2))
            self.assert_is(second, Fraction(1, 2) + number)
            self.assert_is(third, Fraction(1, 2))
            self.assert_is(a, Fraction(1, 2) * number)
            self.assertEqual(len({id(first), id(second), id(third), id(a)}), 4)

    def test_in_place_signs_at_integers(self):
        a = 5
        a -= Ratio(1, 2)
        self.assert_is(a, Fraction(9, 2))
        a = 5
        a += Ratio(1, 2)
        self.assert_is(a, Fraction(11, 2))
        a = 5
        a *= Ratio(1, 2)
        self.assert_is(a, Fraction(5, 2))

    def test_results_are_new_also_if_the_number_stays(self):
        a = Ratio(5, 3)
        for same in (a + 0, 0 + a, a - 0, a * 1, 1 * a, abs(a), a.over(1), Ratio.sum_of([a])):
            self.assertIsNot(same, a)
            self.assert_is(same, Fraction(5, 3))

    def test_returned_numbers_may_be_longer(self):
        a = Ratio(BIG, BIG - 1)
        product, expected = a, Fraction(BIG, BIG - 1)
        for _ in range(20):
            product, expected = product * a, expected * Fraction(BIG, BIG - 1)
        self.assert_is(product, expected)
        self.assert_is(product.over(product), 1)


class ComparingTest(RatioCase):
    def assert_compared(self, a, b, one, other):
        self.assertIs(a.less(b), one < other)
        self.assertIs(a.at_most(b), one <= other)
        self.assertIs(a.same(b), one == other)

    def test_two_ratios(self):
        for one in PAIRS:
            for other in PAIRS:
                self.assert_compared(Ratio(*one), Ratio(*other), exact(one), exact(other))

    def test_ratio_and_integer(self):
        for pair in PAIRS:
            for number in INTEGERS:
                self.assert_compared(Ratio(*pair), number, exact(pair), number)

    def test_equal_and_opposite(self):
        a = Ratio(2, 3)
        self.assertEqual([a.less(Ratio(4, 6)), a.at_most(Ratio(-4, -6)), a.same(Ratio(4, 6))], [False, True, True])
        self.assertEqual([a.less(-a), a.at_most(-a), a.same(-a)], [False, False, False])
        self.assertEqual([(-a).less(a), (-a).at_most(a), (-a).same(a)], [True, True, False])

    def test_near_numbers_differ(self):
        a = Ratio(BIG, BIG - 1)
        self.assertEqual([a.same(1), a.less(1), Ratio(1).less(a), a.at_most(1)], [False, False, True, False])


class RoundingTest(RatioCase):
    def test_floor(self):
        cases = [(0, 1, 0), (7, 2, 3), (-7, 2, -4), (-1, 3, -1), (1, 3, 0), (6, 3, 2), (-6, 3, -2), (-1, BIG, -1)]
        for top, bottom, expected in cases:
            self.assertEqual(Ratio(top, bottom).floor(), expected)

    def test_nearest(self):
        cases = [(0, 1, 0), (1, 3, 0), (2, 3, 1), (-1, 3, 0), (-2, 3, -1), (6, 3, 2), (-6, 3, -2), (-1, BIG, 0)]
        for top, bottom, expected in cases:
            self.assertEqual(Ratio(top, bottom).nearest(), expected)

    def test_halves_go_up(self):
        cases = [(1, 2, 1), (-1, 2, 0), (3, 2, 2), (-3, 2, -1), (5, 2, 3), (-5, 2, -2), (BIG, 2, BIG // 2 + 1)]
        for top, bottom, expected in cases:
            self.assertEqual(Ratio(top, bottom).nearest(), expected)

    def test_beside_a_half(self):
        self.assertEqual(Ratio(BIG // 2, BIG).nearest(), 0)
        self.assertEqual(Ratio(BIG // 2 + 1, BIG).nearest(), 1)
        self.assertEqual(Ratio(-(BIG // 2), BIG).nearest(), 0)
        self.assertEqual(Ratio(-(BIG // 2) - 1, BIG).nearest(), -1)

    def test_integers(self):
        for pair in PAIRS:
            self.assertIs(type(Ratio(*pair).floor()), int)
            self.assertIs(type(Ratio(*pair).nearest()), int)


class SumTest(RatioCase):
    def test_sum(self):
        items = [Ratio(*pair) for pair in PAIRS] + INTEGERS
        self.assert_is(Ratio.sum_of(items), sum([exact(pair) for pair in PAIRS]) + sum(INTEGERS))

    def test_empty_list(self):
        self.assert_is(Ratio.sum_of([]), 0)

    def test_integers_alone(self):
        self.assert_is(Ratio.sum_of([2, 3, -4]), 1)

    def test_the_list_stays(self):
        half = Ratio(1, 2)
        items = [half, 3, half]
        self.assert_is(Ratio.sum_of(items), 4)
        self.assertEqual(items, [half, 3, half])
        self.assertEqual(number_of(half), (1, 2))


if __name__ == "__main__":
    unittest.main()

"""Points 2 to 4 and 9 to 12: forms and parting."""

import unittest
from fractions import Fraction

from lotcosts.errors import BadName, Negative, NoPrice, NoRatio
from lotcosts.forms import Form, parting
from lotcosts.ratios import Ratio

BIG = 10 ** 50 - 1
LONGEST = "abcdefghijkl"
WRONG_NAMES = [
    "", LONGEST + "m", "Wool", "wooL", "WOOL", "wool ", " wool", "wo ol", "wool\n", "wool1", "1", "wo_ol", "wo-ol",
    "w\u00f6l", "\u00df", "\u0430", "\u00aa", "`", "{", "a{", "a.b",
]


def fraction(ratio):
    return Fraction(ratio.top, ratio.bottom)


def table(form):
    return {name: fraction(form.share(name)) for name in form.names()}


def some_forms():
    """Forms over three names with shares of each sign, zeros among them."""
    shares = [0, 2, Ratio(-1, 2)]
    return [Form({"a": a, "b": b, "c": c}) for a in shares for b in shares for c in shares]


class FormCase(unittest.TestCase):
    def assert_form(self, form, expected):
        """The value is a form with these shares and no others."""
        self.assertIs(type(form), Form)
        self.assertEqual(form.names(), sorted(expected))
        for name in expected:
            self.assertIs(type(form.share(name)), Ratio)
        self.assertEqual(table(form), expected)

    def assert_raises_name(self, error, name, deed):
        with self.assertRaises(error) as caught:
            deed()
        self.assertIs(type(caught.exception), error)
        self.assertEqual(caught.exception.name, name)


class MakingTest(FormCase):
    def test_shares(self):
        form = Form({"wool": 3, "silk": Ratio(-1, 2), "flax": BIG})
        self.assert_form(form, {"wool": 3, "silk": Fraction(-1, 2), "flax": BIG})

    def test_without_shares(self):
        for form in (Form(), Form({}), Form(None), Form({"a": 0, "b": Ratio(0, 5)})):
            self.assert_form(form, {})

    def test_zeros_are_left_out(self):
        self.assert_form(Form({"a": 0, "b": 1, "c": Ratio(0), "d": Ratio(1, BIG)}), {"b": 1, "d": Fraction(1, BIG)})

    def test_other_names_have_the_share_0(self):
        for name in ("b", "zz", LONGEST):
            share = Form({"a": 1, "b": 0}).share(name)
            self.assertIs(type(share), Ratio)
            self.assertTrue(share.same(0))

    def test_names_ascend(self):
        self.assertEqual(Form({"b": 1, "ab": 1, "a": 1, "ba": 1}).names(), ["a", "ab", "b", "ba"])

    def test_shortest_and_longest_names(self):
        self.assert_form(Form({"a": 1, "z": 2, LONGEST: 3}), {"a": 1, "z": 2, LONGEST: 3})

    def test_wrong_names(self):
        for name in WRONG_NAMES:
            self.assert_raises_name(BadName, name, lambda: Form({"good": 1, name: 2}))
            self.assert_raises_name(BadName, name, lambda: Form({name: 0}))
            self.assert_raises_name(BadName, name, lambda: Form.of(name))

    def test_a_key_that_is_no_string(self):
        self.assert_raises_name(BadName, 7, lambda: Form({7: 1, "good": 1}))

    def test_the_least_wrong_name_is_told(self):
        self.assert_raises_name(BadName, "B", lambda: Form({"a": 1, "b b": 1, "C": 1, "B": 1, "toolonganame": 1}))
        self.assert_raises_name(BadName, "", lambda: Form({"A": 1, "": 1}))

    def test_the_dict_stays_and_is_copied(self):
        half = Ratio(1, 2)
        shares = {"b": half, "a": 0, "c": 3}
        form = Form(shares)
        self.assertEqual(shares, {"b": half, "a": 0, "c": 3})
        shares["b"] = 9
        shares["d"] = 9
        del shares["c"]
        self.assert_form(form, {"b": Fraction(1, 2), "c": 3})

    def test_the_dict_stays_when_an_error_is_raised(self):
        shares = {"b": 0, "A": 1}
        self.assert_raises_name(BadName, "A", lambda: Form(shares))
        self.assertEqual(shares, {"b": 0, "A": 1})

    def test_of(self):
        self.assert_form(Form.of("wool"), {"wool": 1})
        self.assert_form(Form.of(LONGEST), {LONGEST: 1})

    def test_the_list_of_names_is_new(self):
        form = Form({"a": 1})
        form.names().append("b")
        form.names().clear()
        self.assertEqual(form.names(), ["a"])


class CountingTest(FormCase):
    def test_sums_and_differences(self):
        for one in some_forms():
            for other in some_forms():
                shares = {name: (fraction(one.share(name)), fraction(other.share(name))) for name in "abc"}
                self.assert_form(one + other, {name: a + b for name, (a, b) in shares.items() if a + b})
                self.assert_form(one - other, {name: a - b for name, (a, b) in shares.items() if a - b})

    def test_names_that_only_one_has(self):
        one, other = Form({"a": 1, "b": 2}), Form({"b": -2, "c": Ratio(1, 3)})
        self.assert_form(one + other, {"a": 1, "c": Fraction(1, 3)})
        self.assert_form(one - other, {"a": 1, "b": 4, "c": Fraction(-1, 3)})
        self.assert_form(other - one, {"a": -1, "b": -4, "c": Fraction(1, 3)})

    def test_negated(self):
        self.assert_form(-Form({"a": 1, "b": Ratio(-1, 2)}), {"a": -1, "b": Fraction(1, 2)})
        self.assert_form(-Form(), {})

    def test_times(self):
        form = Form({"a": 3, "b": Ratio(-1, 2)})
        for number in (1, -2, BIG):
            expected = {"a": Fraction(3 * number), "b": Fraction(-number, 2)}
            self.assert_form(form * number, expected)
            self.assert_form(number * form, expected)
            self.assert_form(form * Ratio(number), expected)
        self.assert_form(form * Ratio(2, 3), {"a": 2, "b": Fraction(-1, 3)})

    def test_times_0(self):
        form = Form({"a": 3, "b": Ratio(-1, 2)})
        for product in (form * 0, 0 * form, form * Ratio(0)):
            self.assert_form(product, {})

    def test_over(self):
        form = Form({"a": 3, "b": Ratio(-1, 2)})
        self.assert_form(form.over(3), {"a": 1, "b": Fraction(-1, 6)})
        self.assert_form(form.over(-1), {"a": -3, "b": Fraction(1, 2)})
        self.assert_form(form.over(Ratio(-1, 2)), {"a": -6, "b": 1})
        self.assert_form(Form().over(5), {})

    def test_over_0(self):
        for form in (Form({"a": 1}), Form()):
            for zero in (0, Ratio(0)):
                with self.assertRaises(NoRatio):
                    form.over(zero)

    def test_in_place_signs_make_new_forms(self):
        one, other = Form({"a": 1}), Form({"a": 1, "b": Ratio(1, 2)})
        form = one
        form += other
        added = form
        self.assert_form(form, {"a": 2, "b": Fraction(1, 2)})
        form -= other
        form -= other
        self.assert_form(form, {"b": Fraction(-1, 2)})
        form *= 4
        self.assert_form(form, {"b": -2})
        self.assert_form(one, {"a": 1})
        self.assert_form(added, {"a": 2, "b": Fraction(1, 2)})
        self.assert_form(other, {"a": 1, "b": Fraction(1, 2)})

    def test_forms_stay_as_they_were(self):
        one, other = Form({"a": 1, "b": 2}), Form({"b": -2, "c": 5})
        results = [one + other, one - other, -one, one * 3, 3 * one, one.over(2)]
        results.append([one.at_most(other), one.same(other), parting(one, other), one.at({"a": 1, "b": 1})])
        self.assert_form(one, {"a": 1, "b": 2})
        self.assert_form(other, {"b": -2, "c": 5})

    def test_results_are_new_also_if_the_shares_stay(self):
        form = Form({"a": 1})
        for same in (form + Form(), Form() + form, form - Form(), form * 1, 1 * form, form.over(1)):
            self.assertIsNot(same, form)
            self.assert_form(same, {"a": 1})


class AtTest(FormCase):
    def test_value(self):
        form = Form({"a": 3, "b": Ratio(-1, 2)})
        value = form.at({"a": Ratio(1, 3), "b": 5})
        self.assertIs(type(value), Ratio)
        self.assertEqual(fraction(value), Fraction(-3, 2))
        self.assertEqual(fraction(form.at({"a": BIG, "b": BIG})), Fraction(5 * BIG, 2))

    def test_form_without_shares(self):
        for prices in ({}, {"a": 7}, {"a": -7}):
            value = Form().at(prices)
            self.assertEqual((value.top, value.bottom), (0, 1))

    def test_price_0(self):
        form = Form({"a": 3, "b": 2})
        self.assertEqual(fraction(form.at({"a": 0, "b": Ratio(0)})), 0)
        self.assertEqual(fraction(form.at({"a": 0, "b": 4})), 8)

    def test_other_names_have_no_effect(self):
        self.assertEqual(fraction(Form({"a": 3, "b": 0}).at({"a": 2, "b": -1, "c": 100, "d": Ratio(-5)})), 6)

    def test_least_name_without_price(self):
        form = Form({"d": 1, "b": 1, "a": 1, "c": 1})
        self.assert_raises_name(NoPrice, "b", lambda: form.at({"a": 1, "d": 1}))
        self.assert_raises_name(NoPrice, "a", lambda: form.at({}))

    def test_least_name_with_a_price_below_0(self):
        form = Form({"d": 1, "b": 1, "a": 1, "c": 1})
        self.assert_raises_name(Negative, "b", lambda: form.at({"d": -3, "c": Ratio(-1, 2), "b": -1, "a": 0}))
        self.assert_raises_name(Negative, "c", lambda: form.at({"a": 1, "b": 1, "c": Ratio(-1, BIG), "d": -9}))

    def test_a_missing_price_is_told_first(self):
        form = Form({"a": 1, "b": 1})
        self.assert_raises_name(NoPrice, "b", lambda: form.at({"a": -1}))

    def test_the_prices_stay(self):
        prices = {"b": -1, "a": 3}
        Form({"a": 1}).at(prices)
        self.assert_raises_name(Negative, "b", lambda: Form({"a": 1, "b": 1}).at(prices))
        self.assert_raises_name(NoPrice, "c", lambda: Form({"c": 1, "b": 1}).at(prices))
        self.assertEqual(list(prices.items()), [("b", -1), ("a", 3)])


class ComparingTest(FormCase):
    def test_every_pair(self):
        for one in some_forms():
            for other in some_forms():
                pairs = [(fraction(one.share(name)), fraction(other.share(name))) for name in "abc"]
                self.assertIs(one.at_most(other), all(a <= b for a, b in pairs))
                self.assertIs(one.same(other), all(a == b for a, b in pairs))

    def test_a_share_that_only_one_has(self):
        one, other = Form({"a": 1}), Form({"a": 1, "b": Ratio(1, BIG)})
        self.assertEqual([one.at_most(other), other.at_most(one)], [True, False])
        self.assertEqual([one.same(other), other.same(one)], [False, False])
        self.assertEqual([one.at_most(Form({"a": 1, "b": -1})), Form({"a": 1, "b": -1}).at_most(one)], [False, True])

    def test_a_form_and_itself(self):
        form = Form({"a": 1, "b": -2})
        self.assertEqual([form.at_most(form), form.same(form), form.same(Form({"b": -2, "a": 1}))], [True, True, True])

    def test_forms_without_shares(self):
        self.assertEqual([Form().at_most(Form()), Form().same(Form({"a": 0}))], [True, True])
        self.assertEqual([Form().at_most(Form.of("a")), Form.of("a").at_most(Form())], [True, False])

    def test_opposite_forms(self):
        form = Form({"a": 1, "b": 2})
        self.assertEqual([form.at_most(-form), (-form).at_most(form), form.same(-form)], [False, True, False])


class PartingTest(FormCase):
    def test_every_pair(self):
        for one in some_forms():
            for other in some_forms():
                prices = parting(one, other)
                if table(one) == table(other):
                    self.assertIsNone(prices)
                    continue
                self.assertEqual(sorted(prices), sorted({*one.names(), *other.names()}))
                for price in prices.values():
                    self.assertIs(type(price), int)
                    self.assertIn(price, (0, 1))
                self.assertNotEqual(fraction(one.at(prices)), fraction(other.at(prices)))

    def test_shares_that_cancel_each_other(self):
        one, other = Form({"a": 1, "b": 1}), Form({"a": 2})
        prices = parting(one, other)
        self.assertFalse(one.at(prices).same(other.at(prices)))

    def test_names_with_equal_shares_have_a_price(self):
        prices = parting(Form({"a": 1, "b": 1, "c": 1}), Form({"a": 1, "b": 1}))
        self.assertEqual(sorted(prices), ["a", "b", "c"])

    def test_same_forms(self):
        self.assertIsNone(parting(Form(), Form({"a": 0})))
        self.assertIsNone(parting(Form({"a": Ratio(2, 4)}), Form({"a": Ratio(1, 2)})))

    def test_the_dict_is_new(self):
        one, other = Form({"a": 1}), Form({"b": 1})
        first = parting(one, other)
        kept = dict(first)
        first.clear()
        self.assertEqual(parting(one, other), kept)
        self.assert_form(one, {"a": 1})


if __name__ == "__main__":
    unittest.main()

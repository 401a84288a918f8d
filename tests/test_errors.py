"""Point 4: the errors, their attributes and their base classes."""

import unittest

from lotcosts import errors

# Each error of the interface with the names of its arguments.
ARGUMENTS = {
    "NoRatio": (),
    "BadName": ("name",),
    "NoPrice": ("name",),
    "Negative": ("name",),
    "BadEntry": ("day", "number"),
    "NoEntry": ("day", "number"),
    "BadRule": ("word",),
    "Short": ("missing",),
    "NameTaken": ("name",),
    "UnknownName": ("name",),
    "NotEnough": ("day", "number", "missing"),
    "TooMany": ("day", "number", "left"),
    "Contradiction": ("pair",),
    "NotPlain": ("day", "number"),
    "NotPossible": (),
    "Shut": ("day",),
    "NotClosed": ("day",),
    "NotTold": (),
    "Unfit": ("factors",),
}


class ErrorsTest(unittest.TestCase):
    def test_base_class(self):
        self.assertTrue(issubclass(errors.CostError, ValueError))

    def test_each_error_is_a_direct_subclass(self):
        for word in ARGUMENTS:
            self.assertEqual(getattr(errors, word).__bases__, (errors.CostError,), word)

    def test_no_other_errors(self):
        found = [word for word, item in vars(errors).items() if isinstance(item, type)]
        self.assertEqual(sorted(found), sorted([*ARGUMENTS, "CostError"]))

    def test_arguments_are_attributes(self):
        for word, names in ARGUMENTS.items():
            given = [f"value of {name}" for name in names]
            error = getattr(errors, word)(*given)
            self.assertEqual([getattr(error, name) for name in names], given, word)

    def test_arguments_may_be_named(self):
        for word, names in ARGUMENTS.items():
            error = getattr(errors, word)(**{name: [name] for name in names})
            self.assertEqual([getattr(error, name) for name in names], [[name] for name in names], word)

    def test_huge_numbers_do_no_harm(self):
        huge = 10 ** 5000
        with self.assertRaises(errors.NotEnough) as caught:
            raise errors.NotEnough(huge, -huge, huge + 1)
        self.assertEqual(caught.exception.missing, huge + 1)

    def test_raised_errors_are_caught_as_cost_errors(self):
        for word, names in ARGUMENTS.items():
            with self.assertRaises(errors.CostError):
                raise getattr(errors, word)(*names)


if __name__ == "__main__":
    unittest.main()

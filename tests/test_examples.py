"""The examples that stand in the interface of the document."""

import doctest
import unittest

EXAMPLES = {
    "ratios": """
>>> from lotcosts.ratios import Ratio
>>> half = Ratio(3, -6) + 1
>>> [half.top, half.bottom, (2 - half).top, half.over(3).bottom, half.less(1), half.nearest(), (-half).floor()]
[1, 2, 3, 6, True, 1, -1]
""",
    "forms": """
>>> from lotcosts.forms import Form, parting
>>> from lotcosts.ratios import Ratio
>>> cost = 3 * Form.of("wool") + Form({"silk": Ratio(1, 2)}) - Form.of("wool")
>>> [cost.names(), cost.share("wool").top, cost.at({"wool": 5, "silk": 4, "flax": 9}).same(12), \
cost.at_most(Form({"wool": 2, "silk": 1}))]
[['silk', 'wool'], 2, True, True]
>>> parting(cost, cost + Form.of("flax"))["flax"]
1
""",
}


class ExamplesTest(unittest.TestCase):
    def test_examples(self):
        for name, text in EXAMPLES.items():
            with self.subTest(name):
                test = doctest.DocTestParser().get_doctest(text, {}, name, None, 0)
                told = []
                results = doctest.DocTestRunner().run(test, out=told.append)
                self.assertGreater(results.attempted, 0)
                self.assertEqual(results.failed, 0, "".join(told))


if __name__ == "__main__":
    unittest.main()

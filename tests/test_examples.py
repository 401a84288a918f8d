"""The examples that stand in the interface of the document."""

import doctest
import unittest

# In the order of the document, as later examples use names of earlier ones.
EXAMPLES = {
    "ratios": """
>>> from lotcosts.ratios import Ratio
>>> half = Ratio(3, -6) + 1
>>> [half.top, half.bottom, (2 - half).top, half.over(3).bottom, half.less(1), half.nearest(), (-half).floor()]
[1, 2, 3, 6, True, 1, -1]
""",
    "forms": """
>>> from lotcosts.forms import Form, parting
>>> from lotcosts.ratios import Ratio
>>> cost = 3 * Form.of("wool") + Form({"silk": Ratio(1, 2)}) - Form.of("wool")
>>> [cost.names(), cost.share("wool").top, cost.at({"wool": 5, "silk": 4, "flax": 9}).same(12), \
cost.at_most(Form({"wool": 2, "silk": 1}))]
[['silk', 'wool'], 2, True, True]
>>> parting(cost, cost + Form.of("flax"))["flax"]
1
""",
    "books": """
>>> from lotcosts.books import Book
>>> book = Book()
>>> book[2, 0] = ("sell", "first", 4)
>>> book[1, 0] = ("buy", "red", 3)
>>> book[1, 1] = ("buy", "blue", 5)
>>> [book.places(), book.lots(), book[2, 0], (2, 1) in book, book.tried(lambda b: b.remove(1, 1)), len(book)]
[[(1, 0), (1, 1), (2, 0)], ['red', 'blue'], ('sell', 'first', 4), False, None, 3]
""",
    "layers": """
>>> from lotcosts.layers import Rule
>>> layers = [("red", Ratio(3)), ("blue", Ratio(5))]
>>> taken, left = Rule("even")(layers, 4)
>>> [[(lot, part.top, part.bottom) for lot, part in taken], left[1][1].same(Ratio(5, 2))]
[[('red', 3, 2), ('blue', 5, 2)], True]
>>> taken, left = Rule("oldest", place="top")(layers, 4)
>>> [[(lot, part.top) for lot, part in taken], [(lot, part.top) for lot, part in left]]
[[('red', 3), ('blue', 1)], [('blue', 4)]]
>>> back, kept = Rule("oldest").returned(taken, 2)
>>> [[(lot, part.top) for lot, part in back], [(lot, part.top) for lot, part in kept]]
[[('blue', 1), ('red', 1)], [('red', 2)]]
>>> [(lot, part.top) for lot, part in Rule("oldest", place="top").laid(left, back, ["red", "blue"])]
[('blue', 5), ('red', 1)]
""",
    "costing": """
>>> from lotcosts.costing import Costing
>>> book[3, 0] = ("late", "freight", "blue")
>>> book[4, 0] = ("back", "first", 2)
>>> costs = Costing(book, Rule("oldest", place="top"))
>>> form = costs.cost("first")
>>> [(name, form.share(name).top, form.share(name).bottom) for name in form.names()]
[('red', 2, 1)]
>>> late = costs.booked(3, 0)
>>> [late.names(), late.share("freight").same(Ratio(1, 5)), costs.booked(4, 0).share("blue").same(-1)]
[['freight'], True, True]
>>> [[(lot, part.top) for lot, part in costs.layers()], costs.until(4).same(form)]
[[('blue', 5), ('red', 1)], True]
""",
    "known": """
>>> from lotcosts.forms import Form
>>> from lotcosts.known import Known, carried, never_more
>>> known = Known([("old", "mid"), ("mid", "new")])
>>> early = Form({"old": 2, "mid": 1})
>>> late = Form({"mid": 1, "new": 2})
>>> [known.told("old", "new"), never_more(early, late, known), never_more(late, early, known)["new"]]
[True, None, 1]
>>> [(source, target, amount.top) for source, target, amount in carried(early, late, known)]
[('old', 'new', 2)]
>>> carried(late, early, known) is None
True
""",
    "limits": """
>>> from lotcosts.forms import Form
>>> from lotcosts.known import Known
>>> from lotcosts.limits import Limits, greatest, least
>>> limits = Limits(Known([("old", "new")]), low={"old": 2}, high={"new": 5})
>>> cost = Form({"old": 3, "new": -1})
>>> value, prices = greatest(cost, limits)
>>> [value.top, value.bottom, least(cost, limits)[0].same(1)]
[10, 1, True]
>>> greatest(Form.of("silk") - Form.of("new"), limits)
(None, ['silk'])
""",
    "ways": """
>>> from lotcosts.books import Book
>>> from lotcosts.known import Known
>>> from lotcosts.ways import Ways
>>> book = Book()
>>> book[1, 0] = ("buy", "old", 3)
>>> book[2, 0] = ("sell", "s", 2)
>>> book[3, 0] = ("buy", "new", 4)
>>> book[4, 0] = ("sell", "t", 2)
>>> ways = Ways(book)
>>> [ways.possible({"old": 1, "new": 3}), ways.fewest("old"), ways.most("old"), \
ways.cheapest({"old": 9, "new": 2})["new"]]
[False, 2, 3, 2]
>>> [ways.always_cheapest(Known([("old", "new")])) == {"old": 3, "new": 1}, ways.always_cheapest(Known([]))]
[True, None]
""",
    "histories": """
>>> from lotcosts.histories import periods_show, returns_show, rules_part
>>> from lotcosts.layers import Rule
>>> [rules_part(Rule("oldest"), Rule("oldest", period=7)), returns_show(Rule("newest", place="top"))]
[None, None]
>>> [len(rules_part(Rule("oldest"), Rule("newest"))), len(returns_show(Rule("oldest", place="top"))), \
len(periods_show(Rule("even", period=1)))]
[3, 5, 3]
""",
    "closing": """
>>> from lotcosts.closing import Ledger, changes
>>> early = Book()
>>> early[1, 0] = ("buy", "red", 3)
>>> early[4, 0] = ("sell", "one", 3)
>>> sales, stock = changes(early, Rule("newest"), 2, 0, ("buy", "blue", 2))
>>> [(name, sales["one"].share(name).top) for name in sales["one"].names()]
[('blue', 2), ('red', -2)]
>>> ledger = Ledger(early, Rule("newest"))
>>> ledger.close(5).share("red").top
3
>>> ledger.enter(2, 0, ("buy", "blue", 2))
>>> [ledger.pending().share("blue").top, ledger.close(6).same(sales["one"]), ledger.closed()]
[2, True, [5, 6]]
""",
    "cents": """
>>> from lotcosts.cents import dealt, rounded
>>> from lotcosts.books import Book
>>> from lotcosts.layers import Rule
>>> book = Book()
>>> book[1, 0] = ("buy", "old", 1)
>>> book[2, 0] = ("buy", "new", 1)
>>> book[3, 0] = ("sell", "s", 1)
>>> book[4, 0] = ("sell", "t", 1)
>>> [cents for place, cents in rounded(book, Rule("even"), {"old": 1, "new": 2})]
[0, 0, 2, 1]
>>> dealt(10, [1, 1, 1])
[3, 4, 3]
""",
    "desk": """
>>> from lotcosts.desk import Desk
>>> desk = Desk(Rule("oldest"))
>>> desk.all_of(early)
>>> desk.tell("red", Ratio(5, 2))
>>> [desk.amount("one").same(Ratio(15, 2)), desk.value().same(0), len(desk)]
[True, True, 2]
>>> desk.follow(Rule("even"))
>>> [desk.rule.take, desk.tried(lambda d: d.cost("one").names()), (1, 0) in desk]
['even', ['red'], True]
""",
    "later": """
>>> from lotcosts.later import later_parts, next_cost, pieces
>>> one = Book()
>>> one[1, 0] = ("buy", "red", 2)
>>> one[1, 1] = ("buy", "blue", 3)
>>> other = one.joined(Book())
>>> other[2, 0] = ("sell", "some", 1)
>>> other[3, 0] = ("back", "some", 1)
>>> [later_parts(one, other, Rule("oldest")), later_parts(one, other, Rule("oldest", place="top"))]
[None, 2]
>>> [pieces(other, Rule("oldest", place="top")), next_cost(one, Rule("even"), 5).share("blue").same(3)]
[[('red', 1), ('blue', 3), ('red', 1)], True]
""",
    "shown": """
>>> from lotcosts.shown import Shown, fewest_comparisons
>>> wool, silk = Form.of("wool"), Form.of("silk")
>>> shown = Shown([wool + silk, wool - silk])
>>> [[weight.top for weight in shown.weights(4 * wool)], shown.unseen(silk), shown.needless(), shown.prices_told()]
[[2, 2], None, [], ['silk', 'wool']]
>>> [shown.value(silk, [9, 1]).top, len(shown.fewest_hidden(silk)), Shown([wool]).unseen(silk)["wool"].top]
[4, 1, 0]
>>> fewest_comparisons(wool, silk, Known([("flax", "silk")]), [("wool", "wool"), ("wool", "flax")])
[1]
""",
}


class ExamplesTest(unittest.TestCase):
    def test_examples(self):
        found = {}
        for name, text in EXAMPLES.items():
            with self.subTest(name):
                test = doctest.DocTestParser().get_doctest(text, found, name, None, 0)
                told = []
                results = doctest.DocTestRunner().run(test, out=told.append, clear_globs=False)
                self.assertGreater(results.attempted, 0)
                self.assertEqual(results.failed, 0, "".join(told))
                found = test.globs


if __name__ == "__main__":
    unittest.main()

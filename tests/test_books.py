"""Points 2 to 4 and 13 to 17: entries, places, books and trials."""

import unittest

from lotcosts.books import Book
from lotcosts.errors import BadEntry, NoEntry
from lotcosts.ratios import Ratio

MOST = 1000000
LONGEST = "abcdefghijkl"
RED = ("buy", "red", 3)
BLUE = ("buy", "blue", 5)
SOME = ("sell", "some", 4)
WRONG_NAMES = ["", LONGEST + "m", "Red", "r d", "red ", "red\n", "red1", "r\u00f6t", 7, None, b"red", ("red",), ["red"]]
WRONG_UNITS = [0, -1, MOST + 1, 10 ** 50, True, False, None, "3", Ratio(3), (3,)]
WRONG_NUMBERS = [-1, MOST + 1, 10 ** 50, True, False, None, "1", Ratio(1)]
WRONG_ENTRIES = [
    None, 3, "buy", (), ("buy",), ("buy", "red"), ("buy", "red", 3, 4), ["buy", "red", 3], {"buy": 1},
    ("Buy", "red", 3), ("bought", "red", 3), ("", "red", 3), (None, "red", 3), (["buy"], "red", 3), (b"buy", "red", 3),
    ("red", "buy", 3), ("buy", 3, "red"), ("buy", "red", "blue"), ("late", "freight", 3), ("late", 3, "red"), "abc",
]


def table(book):
    return {place: book[place] for place in book.places()}


def some_book():
    book = Book()
    book[2, 0] = SOME
    book[1, 0] = RED
    book[1, 1] = BLUE
    return book


class BookCase(unittest.TestCase):
    def assert_raises_at(self, error, place, deed):
        with self.assertRaises(error) as caught:
            deed()
        self.assertIs(type(caught.exception), error)
        self.assertEqual((caught.exception.day, caught.exception.number), place)

    def assert_refused(self, place, entry):
        """The book does not take the entry and stays as it is."""
        book = some_book()
        before = table(book)

        def set_entry():
            book[place] = entry

        self.assert_raises_at(BadEntry, place, set_entry)
        self.assertEqual(table(book), before)


class EntriesTest(BookCase):
    def test_each_kind(self):
        book = Book()
        entries = [RED, SOME, ("back", "some", 1), ("late", "freight", "red")]
        for number, entry in enumerate(entries):
            book[4, number] = entry
        self.assertEqual([book[4, number] for number in range(4)], entries)
        self.assertTrue(all(type(book[4, number]) is tuple for number in range(4)))

    def test_least_and_greatest_units(self):
        for kind in ("buy", "sell", "back"):
            for units in (1, MOST):
                book = Book()
                book[1, 1] = (kind, "some", units)
                self.assertEqual(book[1, 1], (kind, "some", units))

    def test_wrong_units(self):
        for kind in ("buy", "sell", "back"):
            for units in WRONG_UNITS:
                self.assert_refused((3, 0), (kind, "some", units))

    def test_shortest_and_longest_names(self):
        for name in ("a", "z", LONGEST):
            for entry in (("buy", name, 1), ("sell", name, 1), ("back", name, 1), ("late", name, "red"),
                          ("late", "red", name)):
                book = Book()
                book[1, 1] = entry
                self.assertEqual(book[1, 1], entry)

    def test_wrong_names(self):
        for name in WRONG_NAMES:
            for kind in ("buy", "sell", "back"):
                self.assert_refused((3, 0), (kind, name, 3))
            self.assert_refused((3, 0), ("late", name, "red"))
            self.assert_refused((3, 0), ("late", "freight", name))

    def test_other_wrong_entries(self):
        for entry in WRONG_ENTRIES:
            self.assert_refused((3, 0), entry)
            self.assert_refused((1, 0), entry)

    def test_what_does_not_fit_together_is_not_checked(self):
        book = Book()
        entries = [("back", "some", 9), ("late", "red", "none"), ("sell", "some", MOST), ("buy", "red", 1),
                   ("buy", "red", 1), ("sell", "some", 1), ("sell", "red", 1), ("late", "red", "red")]
        for number, entry in enumerate(entries):
            book[0, number] = entry
        self.assertEqual([book[place] for place in book.places()], entries)


class PlacesTest(BookCase):
    def test_edges_of_places(self):
        book = Book()
        places = [(0, 0), (0, MOST), (MOST, 0), (MOST, MOST)]
        for number, place in enumerate(reversed(places)):
            book[place] = ("buy", "abcd"[number], 1)
        self.assertEqual(book.places(), places)
        self.assertEqual([book[place][1] for place in places], ["d", "c", "b", "a"])

    def test_wrong_places(self):
        for number in WRONG_NUMBERS:
            self.assert_refused((number, 0), RED)
            self.assert_refused((0, number), RED)
        self.assert_refused((-1, MOST + 1), RED)

    def test_wrong_place_and_wrong_entry(self):
        self.assert_refused((-1, 0), None)

    def test_order_is_by_day_then_by_number(self):
        book = Book()
        for place in [(10, 0), (2, 10), (2, 9), (1, MOST), (9, 0), (0, 3)]:
            book[place] = RED
        self.assertEqual(book.places(), [(0, 3), (1, MOST), (2, 9), (2, 10), (9, 0), (10, 0)])

    def test_the_order_of_setting_has_no_meaning(self):
        book = Book()
        for place in [(1, 1), (2, 0), (1, 0)]:
            book[place] = table(some_book())[place]
        self.assertEqual([book.places(), book.lots(), book.sales()],
                         [some_book().places(), some_book().lots(), some_book().sales()])

    def test_an_entry_is_replaced(self):
        book = some_book()
        book[1, 0] = ("sell", "other", 7)
        self.assertEqual(table(book), {(1, 0): ("sell", "other", 7), (1, 1): BLUE, (2, 0): SOME})
        self.assertEqual([len(book), book.lots(), book.sales()], [3, ["blue"], ["other", "some"]])


class ReadingTest(BookCase):
    def test_without_entries(self):
        book = Book()
        self.assertEqual([len(book), book.places(), book.lots(), book.sales(), book.late_costs()], [0, [], [], [], []])
        self.assertIs((0, 0) in book, False)

    def test_books_are_apart(self):
        one, other = Book(), Book()
        one[1, 1] = RED
        self.assertEqual([len(one), len(other)], [1, 0])

    def test_contains_and_length(self):
        book = some_book()
        self.assertEqual(len(book), 3)
        for place, expected in [((1, 0), True), ((2, 0), True), ((0, 1), False), ((2, 1), False), ((-1, 0), False)]:
            self.assertIs(place in book, expected)
            self.assertIs(place not in book, not expected)

    def test_no_entry(self):
        book = some_book()
        for place in [(0, 1), (2, 1), (-1, 0), (MOST + 1, 0)]:
            self.assert_raises_at(NoEntry, place, lambda: book[place])
            self.assert_raises_at(NoEntry, place, lambda: book.remove(*place))
        self.assertEqual(table(book), table(some_book()))

    def test_remove(self):
        book = some_book()
        self.assertIsNone(book.remove(1, 0))
        self.assertEqual(table(book), {(1, 1): BLUE, (2, 0): SOME})
        self.assert_raises_at(NoEntry, (1, 0), lambda: book[1, 0])
        self.assert_raises_at(NoEntry, (1, 0), lambda: book.remove(1, 0))
        book[1, 0] = BLUE
        self.assertEqual(book[1, 0], BLUE)

    def test_names_in_the_order_of_the_entries_each_once(self):
        book = Book()
        rows = [("sell", "zoo", 1), ("buy", "wool", 1), ("late", "toll", "wool"), ("buy", "flax", 2),
                ("buy", "wool", 9), ("back", "ghost", 1), ("sell", "ant", 1), ("sell", "zoo", 2),
                ("late", "duty", "phantom"), ("late", "toll", "flax"), ("buy", "ant", 1)]
        for number, entry in reversed(list(enumerate(rows))):
            book[number // 4, number] = entry
        self.assertEqual(book.lots(), ["wool", "flax", "ant"])
        self.assertEqual(book.sales(), ["zoo", "ant"])
        self.assertEqual(book.late_costs(), ["toll", "duty"])

    def test_returned_lists_are_new(self):
        book = some_book()
        book[3, 0] = ("late", "toll", "red")
        for method in (book.places, book.lots, book.sales, book.late_costs):
            expected = list(method())
            method().append("other")
            method().clear()
            self.assertEqual(method(), expected)
        self.assertEqual(len(book), 4)


class TrialTest(BookCase):
    def test_changes_end_with_the_block(self):
        book = some_book()
        before = table(book)
        with book.trial():
            book[1, 0] = BLUE
            book[5, 5] = RED
            book.remove(2, 0)
            self.assertEqual(table(book), {(1, 0): BLUE, (1, 1): BLUE, (5, 5): RED})
        self.assertEqual(table(book), before)

    def test_the_book_goes_on_after_a_trial(self):
        book = some_book()
        with book.trial():
            book.remove(1, 0)
        book[7, 0] = RED
        book.remove(1, 1)
        self.assertEqual(table(book), {(1, 0): RED, (2, 0): SOME, (7, 0): RED})

    def test_a_block_without_changes(self):
        book = some_book()
        with book.trial():
            pass
        self.assertEqual(table(book), table(some_book()))

    def test_a_block_that_empties_the_book_or_begins_without_entries(self):
        book = some_book()
        with book.trial():
            for place in book.places():
                book.remove(*place)
            self.assertEqual(len(book), 0)
        self.assertEqual(table(book), table(some_book()))
        empty = Book()
        with empty.trial():
            empty[1, 0] = RED
        self.assertEqual(table(empty), {})

    def test_the_block_begins_with_the_entries_of_its_beginning(self):
        book = some_book()
        trial = book.trial()
        book[3, 0] = RED
        with trial:
            book.remove(3, 0)
            book[4, 0] = RED
        self.assertEqual(table(book), {**table(some_book()), (3, 0): RED})

    def test_a_block_that_raises_an_error(self):
        book = some_book()
        with self.assertRaises(KeyError) as caught:
            with book.trial():
                book[9, 9] = RED
                raise KeyError("own")
        self.assertEqual(caught.exception.args, ("own",))
        self.assertEqual(table(book), table(some_book()))

    def test_a_block_that_raises_an_error_of_the_book(self):
        book = some_book()

        def wrong_block():
            with book.trial():
                book[9, 9] = RED
                book[9, 10] = ("buy", "red", 0)

        self.assert_raises_at(BadEntry, (9, 10), wrong_block)
        self.assertEqual(table(book), table(some_book()))

    def test_a_block_that_is_left_early(self):
        book = some_book()

        def early():
            with book.trial():
                book.remove(1, 0)
                return len(book)

        self.assertEqual(early(), 2)
        for _ in range(2):
            with book.trial():
                book.remove(1, 0)
                continue
        self.assertEqual(table(book), table(some_book()))

    def test_nested_trials(self):
        book = some_book()
        with book.trial():
            book[1, 0] = BLUE
            with book.trial():
                book[1, 0] = ("buy", "green", 1)
                book.remove(1, 1)
                with book.trial():
                    book[1, 1] = SOME
                self.assertEqual(table(book), {(1, 0): ("buy", "green", 1), (2, 0): SOME})
            self.assertEqual(table(book), {(1, 0): BLUE, (1, 1): BLUE, (2, 0): SOME})
            book.remove(2, 0)
            self.assertEqual(table(book), {(1, 0): BLUE, (1, 1): BLUE})
        self.assertEqual(table(book), table(some_book()))

    def test_nested_trials_that_end_by_an_error(self):
        book = some_book()
        with self.assertRaises(ZeroDivisionError):
            with book.trial():
                book.remove(1, 0)
                with book.trial():
                    book.remove(1, 1)
                    raise ZeroDivisionError
        self.assertEqual(table(book), table(some_book()))
        with book.trial():
            book.remove(1, 0)
            with self.assertRaises(ZeroDivisionError):
                with book.trial():
                    book.remove(1, 1)
                    raise ZeroDivisionError
            self.assertEqual(table(book), {(1, 1): BLUE, (2, 0): SOME})
        self.assertEqual(table(book), table(some_book()))

    def test_trials_of_two_books(self):
        one, other = some_book(), some_book()
        with one.trial(), other.trial():
            one.remove(1, 0)
            other.remove(1, 1)
        self.assertEqual([table(one), table(other)], [table(some_book())] * 2)
        with one.trial():
            one.remove(1, 0)
            other.remove(1, 1)
        self.assertEqual([table(one), table(other)], [table(some_book()), {(1, 0): RED, (2, 0): SOME}])


class TriedTest(BookCase):
    def test_the_deed_gets_the_book_and_its_result_is_returned(self):
        book = some_book()
        seen = []

        def deed(given):
            seen.append(given)
            given[5, 0] = RED
            book.remove(1, 0)
            return table(given)

        self.assertEqual(book.tried(deed), {(1, 1): BLUE, (2, 0): SOME, (5, 0): RED})
        self.assertIs(seen[0], book)
        self.assertEqual(table(book), table(some_book()))

    def test_a_deed_that_returns_none(self):
        self.assertIsNone(some_book().tried(lambda book: book.remove(1, 1)))

    def test_an_error_of_the_deed(self):
        book = some_book()

        def deed(given):
            given[5, 0] = RED
            given.remove(8, 8)

        self.assert_raises_at(NoEntry, (8, 8), lambda: book.tried(deed))
        self.assertEqual(table(book), table(some_book()))

    def test_nested(self):
        book = some_book()

        def deed(given):
            given.remove(1, 0)
            inner = given.tried(lambda same: [same.remove(1, 1), len(same)][1])
            return [inner, len(given)]

        self.assertEqual(book.tried(deed), [1, 2])
        self.assertEqual(len(book), 3)


class JoinedTest(BookCase):
    def test_entries_of_both(self):
        one, other = some_book(), Book()
        other[1, 1] = BLUE
        other[0, 4] = ("late", "toll", "red")
        for book in (one.joined(other), other.joined(one)):
            self.assertIs(type(book), Book)
            self.assertEqual(table(book), {**table(some_book()), (0, 4): ("late", "toll", "red")})
        self.assertEqual([table(one), len(other)], [table(some_book()), 2])

    def test_the_book_is_new(self):
        one, other = some_book(), Book()
        for book in (one.joined(other), other.joined(one), one.joined(one)):
            self.assertEqual(table(book), table(some_book()))
            book.remove(1, 0)
            book[7, 7] = RED
            self.assertEqual([table(one), table(other)], [table(some_book()), {}])
        book = one.joined(other)
        one.remove(1, 0)
        other[8, 8] = RED
        self.assertEqual(table(book), table(some_book()))

    def test_two_books_without_entries(self):
        self.assertEqual(len(Book().joined(Book())), 0)

    def test_the_first_place_with_different_entries(self):
        one, other = Book(), Book()
        for place, entry in [((9, 0), RED), ((2, 7), RED), ((2, 10), RED), ((1, 1), RED)]:
            one[place] = entry
        for place, entry in [((9, 0), BLUE), ((2, 10), ("buy", "red", 4)), ((1, 1), RED), ((0, 0), SOME)]:
            other[place] = entry
        before = [table(one), table(other)]
        self.assert_raises_at(BadEntry, (2, 10), lambda: one.joined(other))
        self.assert_raises_at(BadEntry, (2, 10), lambda: other.joined(one))
        self.assertEqual([table(one), table(other)], before)

    def test_entries_that_differ_in_one_item(self):
        for entry in [("sell", "red", 3), ("buy", "rod", 3), ("buy", "red", 2)]:
            one, other = Book(), Book()
            one[1, 0] = RED
            other[1, 0] = entry
            self.assert_raises_at(BadEntry, (1, 0), lambda: one.joined(other))


if __name__ == "__main__":
    unittest.main()

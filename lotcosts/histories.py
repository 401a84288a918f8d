"""Books that show how rules differ, with as few entries as possible."""

from lotcosts.books import Book
from lotcosts.layers import Rule

# Rows (kind, name, late): late entries stand on a day of a later period under the rule with the shorter
# periods, but not under another rule with longer ones. All other entries stand on day 0.
_FIRST_SALE = (
    ("buy", "a", False),
    ("buy", "b", False),
    ("sell", "s", False),
)
_LOT_BEHIND_SALE = (
    ("buy", "a", False),
    ("sell", "s", False),
    ("buy", "b", True),
)
_RETURN = (
    ("buy", "a", False),
    ("buy", "b", False),
    ("sell", "s", False),
    ("back", "s", False),
    ("sell", "t", False),
)
_RETURN_BEHIND_LOT = (
    ("buy", "a", False),
    ("sell", "s", False),
    ("buy", "b", True),
    ("back", "s", True),
    ("sell", "t", True),
)
_LOT_BEHIND_RETURN = (
    ("buy", "a", False),
    ("sell", "s", False),
    ("back", "s", False),
    ("buy", "b", True),
    ("sell", "t", True),
)
_TWO_RETURNS = (
    ("buy", "a", False),
    ("buy", "b", False),
    ("sell", "s", False),
    ("sell", "t", False),
    ("back", "s", False),
    ("back", "t", False),
    ("sell", "u", False),
)


def _book_of(rows, later):
    """Return a book with an entry of one unit for each row, the late ones on the later day."""
    book = Book()
    for number, (kind, name, late) in enumerate(rows):
        day = later if late else 0
        book[day, number] = (kind, name, 1)
    return book


def _alike(one, other):
    """Tell whether each sale costs the same under both rules, in every book that both can cost."""
    if one.take != other.take:
        return False
    if one.take != "even" and one.place != other.place:
        return False
    return one.period == other.period or one.take == "oldest" and one.place != "top"


def _parting_rows(one, other):
    """Return the rows of a book that parts two rules that are not alike."""
    if one.take != other.take:
        return _FIRST_SALE
    if one.take != "oldest" and one.period != other.period:
        return _LOT_BEHIND_SALE
    places = [one.place, other.place]
    if one.take == "newest":
        return _RETURN if "bottom" in places else _RETURN_BEHIND_LOT
    if one.place == other.place:
        return _LOT_BEHIND_RETURN
    return _RETURN if "top" in places else _TWO_RETURNS


def rules_part(one, other):
    """Return a book in which a sale does not cost the same under both rules, or None if they are alike."""
    if _alike(one, other):
        return None
    return _book_of(_parting_rows(one, other), min(one.period, other.period))


def returns_show(rule):
    """Return a book in which a sale that is brought back at once changes the next sale's cost, or None."""
    if (rule.take, rule.place) in (("oldest", "top"), ("newest", "bottom")):
        return _book_of(_RETURN, 0)
    return None


def periods_show(rule):
    """Return a book that parts the rule from the one without periods, or None if they are alike."""
    return rules_part(rule, Rule(rule.take, place=rule.place))

"""Books: entries at places, and trials after which a book is as it was."""

from lotcosts.errors import BadEntry, NoEntry
from lotcosts.forms import is_name

_MOST = 1000000


def is_whole(number, least):
    """Tell whether this is an integer from the least one to 1000000; True and False are none."""
    if isinstance(number, bool) or not isinstance(number, int):
        return False
    return least <= number <= _MOST


def is_entry(entry):
    """Tell whether this is one of the tuples that a book takes."""
    if not isinstance(entry, tuple) or len(entry) != 3:
        return False
    kind, name, last = entry
    if kind == "late":
        return is_name(name) and is_name(last)
    return kind in ("buy", "sell", "back") and is_name(name) and is_whole(last, 1)


class Trial:
    """A block at whose end a book has the entries again that it had when the block began."""

    def __init__(self, book):
        self._book = book
        self._before = {}

    def __enter__(self):
        book = self._book
        self._before = {place: book[place] for place in book.places()}
        return book

    def __exit__(self, kind, value, trace):
        book = self._book
        book._entries = self._before


class Book:
    """Entries at places (day, number), at most one at each."""

    def __init__(self):
        self._entries = {}

    def __setitem__(self, at, worth):
        day, number = at
        if not (is_whole(day, 0) and is_whole(number, 0) and is_entry(worth)):
            raise BadEntry(day, number)
        self._entries[day, number] = worth

    def __getitem__(self, at):
        day, number = at
        if (day, number) not in self._entries:
            raise NoEntry(day, number)
        return self._entries[day, number]

    def __contains__(self, x):
        return x in self._entries

    def __len__(self):
        return len(self._entries)

    def remove(self, day, number):
        """Take the entry out; raise NoEntry if there is none."""
        if (day, number) not in self._entries:
            raise NoEntry(day, number)
        del self._entries[day, number]

    def places(self):
        """Return the list of the places with entries, in order."""
        return sorted(self._entries)

    def lots(self):
        """Return the names of the lots, in the order of the entries, each once."""
        return self._names_of("buy")

    def sales(self):
        """Return the names of the sales, in the order of the entries, each once."""
        return self._names_of("sell")

    def late_costs(self):
        """Return the names of the late costs, in the order of the entries, each once."""
        return self._names_of("late")

    def trial(self):
        """Return a context manager for one block, which takes back what the block changes."""
        return Trial(self)

    def tried(self, deed):
        """Return what deed(book) returns, called in a trial."""
        with self.trial():
            return deed(self)

    def joined(self, other):
        """Return a new book with the entries of both; raise BadEntry where they differ first."""
        for place in self.places():
            if place in other and other[place] != self[place]:
                day, number = place
                raise BadEntry(day, number)
        book = Book()
        for source in (self, other):
            for place in source.places():
                book[place] = source[place]
        return book

    def _names_of(self, kind):
        names = {}
        for place in self.places():
            word, name, _ = self._entries[place]
            if word == kind:
                names[name] = True
        return list(names)

"""Books: a base, and named tables that are told by their starts and their blocks."""

from blockbooks.checks import check_book
from blockbooks.errors import InvalidName
from blockbooks.systems import system_of


class Book:
    """A book. It never changes."""

    def __init__(self, base, named):
        check_book(base, named)
        self._base = base
        self._named = [(name, start, _copied(blocks)) for name, start, blocks in named]
        # Made once, since every entry of a table of the book is worked out through it.
        self._system = system_of(base, self._named)

    @property
    def base(self):
        """The base, 2 or 3."""
        return self._base

    @property
    def names(self):
        """The list of the names, in their sequence."""
        return [told[0] for told in self._named]

    @property
    def system(self):
        """The system of the named tables."""
        return self._system

    def start_of(self, name):
        """Return the start of a named table."""
        return self._told(name)[1]

    def blocks_of(self, name):
        """Return the lists of blocks of a named table, as they were passed."""
        return _copied(self._told(name)[2])

    def _told(self, name):
        for told in self._named:
            if told[0] == name:
                return told
        raise InvalidName(name)

    def __eq__(self, other):
        return isinstance(other, Book) and self._base == other._base and self._named == other._named


def _copied(blocks):
    return [[list(block) for block in line] for line in blocks]

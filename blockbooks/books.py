"""Books: a base, and named tables that are told by their starts and their blocks."""

from blockbooks.checks import check_book
from blockbooks.errors import InvalidName


class Book:
    """A book. It never changes."""

    def __init__(self, base, named):
        check_book(base, named)
        self._base = base
        self._named = [(name, start, _copied(blocks)) for name, start, blocks in named]
        # Kept with indices in the place of names, since every entry is worked out through these.
        self._steps = [[_step(self._named, row, column) for column in range(base)] for row in range(base)]

    @property
    def base(self):
        """The base, 2 or 3."""
        return self._base

    @property
    def names(self):
        """The list of the names, in their sequence."""
        return [told[0] for told in self._named]

    def start_of(self, name):
        """Return the start of a named table."""
        return self._told(name)[1]

    def blocks_of(self, name):
        """Return the lists of blocks of a named table, as they were passed."""
        return _copied(self._told(name)[2])

    def first_entry(self, shares):
        """Return the entry at level 0 of the table with these shares."""
        return sum([share * told[1] for share, told in zip(shares, self._named)])

    def block_shares(self, shares, row, column):
        """Return the shares of one block of the table with these shares."""
        found = [0] * len(shares)
        for share, terms in zip(shares, self._steps[row][column]):
            for coefficient, at in terms:
                found[at] += share * coefficient
        return found

    def _told(self, name):
        for told in self._named:
            if told[0] == name:
                return told
        raise InvalidName(name)

    def __eq__(self, other):
        return isinstance(other, Book) and self._base == other._base and self._named == other._named


def _copied(blocks):
    return [[list(block) for block in line] for line in blocks]


def _step(named, row, column):
    """Return, for each named table, the terms (coefficient, index) of its block in one place."""
    names = [told[0] for told in named]
    blocks_there = [told[2][row][column] for told in named]
    return [[(coefficient, names.index(name)) for coefficient, name in block] for block in blocks_there]

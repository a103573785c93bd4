"""Tables: sums of multiples of the named tables of a book."""

from blockbooks.checks import check_level, check_place
from blockbooks.errors import InvalidName, InvalidNumber
from blockbooks.places import digits_of


class Table:
    """A table of a book, told by one share for each named table. It never changes."""

    def __init__(self, book, shares):
        if len(shares) != len(book.names):
            raise InvalidNumber(len(shares))
        self._book = book
        self._shares = list(shares)

    @property
    def book(self):
        """The book of the table."""
        return self._book

    @property
    def shares(self):
        """The list of the shares, in the sequence of the book."""
        return list(self._shares)

    def entry(self, level, row, column):
        """Return the entry of a level in a row and a column."""
        base = self._book.base
        check_level(level)
        check_place(base, level, (row, column))
        shares = self._shares
        # Each block of a table is a table of the same book again, so one walk inwards is enough.
        for block_row, block_column in zip(digits_of(row, base, level), digits_of(column, base, level)):
            shares = self._book.system.block_shares(shares, block_row, block_column)
        return self._book.system.first_entry(shares)

    def written(self, level):
        """Return the list of the rows of a level."""
        check_level(level)
        system = self._book.system
        grid = [[self._shares]]
        for _ in range(level):
            grid = _cut(system, grid)
        return [[system.first_entry(shares) for shares in line] for line in grid]

    def __eq__(self, other):
        return isinstance(other, Table) and self._book == other._book and self._shares == other._shares


def table_named(book, name):
    """Return the table of a book that is its named table with a name."""
    names = book.names
    if name not in names:
        raise InvalidName(name)
    return Table(book, [1 if other == name else 0 for other in names])


def _cut(system, grid):
    """Return a grid in which the shares of each table give way to those of its blocks."""
    sides = range(system.base)
    return [
        [system.block_shares(shares, row, column) for shares in line for column in sides]
        for line in grid
        for row in sides
    ]

"""Lattices: all sums of integer multiples of vectors, by rows of one form only."""

from blockbooks.vectors import first_at, mixed


class Lattice:
    """All sums of integer multiples of the vectors that were taken.

    They are told by rows that are the same however the vectors were taken: the first number of each
    that is not 0 is greater than 0 and stands behind that of the row above it, and the numbers above
    it in other rows are from 0 to one less than it. Only as many numbers of a vector count as the
    lattice is wide; those behind them are carried along.
    """

    def __init__(self, width):
        self._width = width
        self._rows = {}

    def rows(self):
        """Return the list of the rows."""
        return [list(self._rows[at]) for at in sorted(self._rows)]

    def parts_of(self, vector):
        """Return how often each row is taken out of a vector until `rest_of` is left."""
        return self._parted(vector)[0]

    def rest_of(self, vector):
        """Return what is left of a vector, with numbers from 0 to one less at the first number of each row."""
        return self._parted(vector)[1]

    def take(self, vector):
        """Make the lattice larger by a vector."""
        rest = self.rest_of(vector)
        while any(rest[:self._width]):
            at = first_at(rest)
            if at not in self._rows:
                self._rows[at] = rest if rest[at] > 0 else [-number for number in rest]
                break
            self._rows[at], rest = _joined(self._rows[at], rest, at)
            # The numbers would grow from row to row if they were not lowered as soon as they can be.
            rest = self.rest_of(rest)
        self._lower_rows()

    def _parted(self, vector):
        parts, rest = [], list(vector)
        for at in sorted(self._rows):
            row = self._rows[at]
            part = rest[at] // row[at]
            parts.append(part)
            if part != 0:
                rest = mixed(1, rest, -part, row)
        return parts, rest

    def _lower_rows(self):
        order = sorted(self._rows)
        for k, at in enumerate(order):
            for later in order[k + 1:]:
                row, below = self._rows[at], self._rows[later]
                part = row[later] // below[later]
                if part != 0:
                    self._rows[at] = mixed(1, row, -part, below)


def _joined(row, rest, at):
    """Return two vectors with the same sums of multiples, the second one with 0 in one place."""
    factor, times_row, times_rest = _bezout(row[at], rest[at])
    first = mixed(times_row, row, times_rest, rest)
    return first, mixed(row[at] // factor, rest, -(rest[at] // factor), row)


def _bezout(number, other):
    """Return the greatest common factor of two numbers from 1 on, and multiples that add up to it."""
    low, low_number, low_other = number, 1, 0
    high, high_number, high_other = other, 0, 1
    while high != 0:
        part = low // high
        low, high = high, low - part * high
        low_number, high_number = high_number, low_number - part * high_number
        low_other, high_other = high_other, low_other - part * high_other
    return low, low_number, low_other

"""Promise 9: the well known tables, at near and far levels, and sums of them by shares."""

import random
import unittest

from blockbooks.books import Book
from blockbooks.tables import Table, table_named
from tests.helper import ROWS_OF_BITS, ROWS_OF_SIGNS, ROWS_OF_THREES, at_once


def ones(number):
    return bin(number).count("1")


def threes(number):
    """Return the digits of a number to the base 3, the last one first."""
    digits = []
    while number:
        number, digit = divmod(number, 3)
        digits.append(digit)
    return digits


def both_digits(row, column):
    rows, columns = threes(row), threes(column)
    many = max(len(rows), len(columns))
    return zip(rows + [0] * (many - len(rows)), columns + [0] * (many - len(columns)))


def sum_without_carrying(row, column):
    return sum((i + j) % 3 * 3 ** n for n, (i, j) in enumerate(both_digits(row, column)))


def choices(row, column):
    """Return how many parts of a row, told by how often each thing is in it, are a column."""
    found = 1
    for i, j in both_digits(row, column):
        found *= [[1, 0, 0], [1, 1, 0], [1, 2, 1]][i][j]
    return found


# The entry of each well known table, told by level, row and column.
BITS = {
    "x": lambda n, row, column: row ^ column,
    "n": lambda n, row, column: row & column,
    "r": lambda n, row, column: row,
    "c": lambda n, row, column: column,
    "p": lambda n, row, column: 2 ** n,
}
SIGNS = {
    "h": lambda n, row, column: (-1) ** ones(row & column),
    "d": lambda n, row, column: 2 ** n if row == column else 0,
    "s": lambda n, row, column: int(row & column == column),
    "m": lambda n, row, column: (-1) ** ones(row ^ column) if row & column == column else 0,
}
THREES = {
    "r": lambda n, row, column: row,
    "c": lambda n, row, column: column,
    "x": lambda n, row, column: sum_without_carrying(row, column),
    "p": lambda n, row, column: 3 ** n,
    "s": lambda n, row, column: choices(row, column),
    "m": lambda n, row, column: (-1) ** (sum(threes(row)) + sum(threes(column))) * choices(row, column),
}
ALL = [(2, ROWS_OF_BITS, BITS), (2, ROWS_OF_SIGNS, SIGNS), (3, ROWS_OF_THREES, THREES)]


def multiplied(rows, others):
    return [[sum(a * b for a, b in zip(row, column)) for column in zip(*others)] for row in rows]


class KnownTables(unittest.TestCase):

    def places(self, base, level):
        chance = random.Random(level)
        last = base ** level - 1
        yield from [(0, 0), (0, last), (last, 0), (last, last), (last // 2, last // 2), (last // 3, last // 5)]
        for _ in range(6):
            row = chance.randint(0, last)
            yield row, chance.randint(0, last)
            yield row, row
            yield row, row - row % base ** (level // 2)

    def test_near_levels(self):
        for base, named, known in ALL:
            book = Book(base, named)
            self.assertEqual(sorted(book.names), sorted(known))
            for name, rule in known.items():
                for level in range(6 if base == 2 else 4):
                    side = base ** level
                    wanted = [[rule(level, row, column) for column in range(side)] for row in range(side)]
                    self.assertEqual(table_named(book, name).written(level), wanted)

    def test_far_levels(self):
        with at_once():
            for base, named, known in ALL:
                book = Book(base, named)
                for name, rule in known.items():
                    table = table_named(book, name)
                    for level in [30, 99, 100]:
                        for row, column in self.places(base, level):
                            self.assertEqual(table.entry(level, row, column), rule(level, row, column))

    def test_sums_by_shares(self):
        for base, named, known in ALL:
            book = Book(base, named)
            chance = random.Random(base)
            for _ in range(8):
                shares = [chance.randint(-99, 99) for _ in named]
                table = Table(book, shares)
                for level in [0, 1, 2, 3, 50, 100]:
                    self.assert_sum(table, known, level)

    def assert_sum(self, table, known, level):
        """Check that entries of a level are sums of multiples of those of the known tables."""
        named = list(zip(table.shares, table.book.names))
        with at_once():
            for row, column in self.places(table.book.base, level):
                wanted = sum(share * known[name](level, row, column) for share, name in named)
                self.assertEqual(table.entry(level, row, column), wanted)

    def test_exclusive_or_and_twice_the_bitwise_and_are_rows_and_columns(self):
        table = Table(Book(2, ROWS_OF_BITS), [1, 2, -1, -1, 0])
        self.assertEqual(table.written(5), [[0] * 32] * 32)
        with at_once():
            for row, column in self.places(2, 100):
                self.assertEqual(table.entry(100, row, column), 0)

    def test_the_table_that_takes_sums_over_parts_back(self):
        for base, named in [(2, ROWS_OF_SIGNS), (3, ROWS_OF_THREES)]:
            book = Book(base, named)
            for level in range(4):
                sums, back = [table_named(book, name).written(level) for name in "sm"]
                side = base ** level
                one = [[int(row == column) for column in range(side)] for row in range(side)]
                self.assertEqual(multiplied(sums, back), one)

    def test_the_square_of_the_signs(self):
        book = Book(2, ROWS_OF_SIGNS)
        for level in range(6):
            signs = table_named(book, "h").written(level)
            self.assertEqual(multiplied(signs, signs), table_named(book, "d").written(level))


if __name__ == "__main__":
    unittest.main()

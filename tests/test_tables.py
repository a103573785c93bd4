"""Promises 5, 6, 7 and 8: tables, their entries at near and far levels, and their errors."""

import copy
import inspect
import random
import unittest
from unittest import mock

from blockbooks.books import Book
from blockbooks.errors import InvalidLevel, InvalidName, InvalidNumber, InvalidPlace
from blockbooks.tables import Table, table_named
from tests.helper import (ROWS_OF_BITS, ROWS_OF_SIGNS, ROWS_OF_THREES, assert_equality, at_once, entry_of, mixed,
                          random_rows, random_shares, squares_of, zero_blocks)

MOST = {2: 5, 3: 3}


def samples():
    """Yield bases, named tables and shares."""
    yield 2, ROWS_OF_BITS, [1, 2, 0, 0, 0]
    yield 2, ROWS_OF_BITS, [3, -1, 4, -1, 5]
    yield 2, ROWS_OF_SIGNS, [0, 0, 0, 0]
    yield 2, ROWS_OF_SIGNS, [-99, 99, 0, 1]
    yield 3, ROWS_OF_THREES, [1, -1, 2, 7, 0, -3]
    for seed in range(24):
        base, many = 2 + seed % 2, 1 + seed % 6
        yield base, random_rows(seed, base, many), random_shares(seed, many)


class What(unittest.TestCase):
    """Promise 5."""

    def test_interface(self):
        self.assertEqual(Table.__module__, "blockbooks.tables")
        self.assertEqual(table_named.__module__, "blockbooks.tables")
        self.assertEqual(list(inspect.signature(Table).parameters), ["book", "shares"])
        self.assertEqual(list(inspect.signature(table_named).parameters), ["book", "name"])
        self.assertIsInstance(vars(Table)["book"], property)
        self.assertIsInstance(vars(Table)["shares"], property)
        self.assertEqual(list(inspect.signature(vars(Table)["entry"]).parameters), ["self", "level", "row", "column"])
        self.assertEqual(list(inspect.signature(vars(Table)["written"]).parameters), ["self", "level"])

    def test_wrong_numbers_of_shares(self):
        for base, rows, _ in samples():
            book = Book(base, rows)
            for many in range(10):
                if many != len(rows):
                    passed = [1] * many
                    with self.assertRaises(InvalidNumber) as caught:
                        Table(book, passed)
                    self.assertEqual(caught.exception.value, many)
                    self.assertEqual(passed, [1] * many)
        with self.assertRaises(InvalidNumber) as caught:
            Table(Book(2, []), [0])
        self.assertEqual(caught.exception.value, 1)

    def test_book_and_shares(self):
        for base, rows, shares in samples():
            table = Table(Book(base, rows), shares)
            self.assertEqual(table.book, Book(base, rows))
            self.assertEqual(table.shares, shares)
            self.assertIs(type(table.shares), list)

    def test_shares_are_new_lists(self):
        passed = [1, 2, 3, 4]
        table = Table(Book(2, ROWS_OF_SIGNS), passed)
        passed[0] = 9
        passed.append(5)
        self.assertEqual(table.shares, [1, 2, 3, 4])
        table.shares[0] = 9
        table.shares.append(5)
        table.shares.clear()
        self.assertEqual(table.shares, [1, 2, 3, 4])
        self.assertIsNot(table.shares, table.shares)
        self.assertEqual(table, Table(Book(2, ROWS_OF_SIGNS), [1, 2, 3, 4]))
        self.assertEqual(table.written(0), [[10]])

    def test_by_position_and_by_name(self):
        book = Book(2, ROWS_OF_BITS)
        table = Table(shares=[1, 0, 0, 0, 0], book=book)
        self.assertEqual(table, Table(book, [1, 0, 0, 0, 0]))
        self.assertEqual(table_named(name="x", book=book), table)
        self.assertEqual(table.entry(column=3, row=5, level=3), 6)
        self.assertEqual(table.entry(column=1, row=2, level=2), 3)
        self.assertEqual(table_named(book, "r").entry(level=3, column=1, row=6), 6)
        self.assertEqual(table.written(level=1), [[0, 1], [1, 0]])

    def test_equal_tables(self):
        for base, rows, shares in samples():
            one = Table(Book(base, rows), shares)
            other = Table(Book(base, copy.deepcopy(rows)), list(shares))
            assert_equality(self, one, other, True)

    def test_unlike_tables(self):
        book = Book(2, ROWS_OF_SIGNS)
        table = Table(book, [1, 2, 3, 4])
        reversed_book = Book(2, ROWS_OF_SIGNS[::-1])
        for other in [Table(book, [1, 2, 3, 5]), Table(book, [4, 3, 2, 1]), Table(book, [0, 0, 0, 0]),
                      Table(reversed_book, [1, 2, 3, 4]), Table(reversed_book, [4, 3, 2, 1]),
                      Table(Book(2, ROWS_OF_BITS), [1, 2, 3, 4, 0])]:
            assert_equality(self, table, other, False)
        assert_equality(self, Table(Book(2, []), []), Table(Book(3, []), []), False)
        assert_equality(self, Table(Book(2, []), []), Table(Book(2, []), []), True)

    def test_tables_with_the_same_entries_need_not_be_equal(self):
        book = Book(2, ROWS_OF_BITS)
        one, other = Table(book, [1, 2, 0, 0, 0]), Table(book, [0, 0, 1, 1, 0])
        self.assertEqual(one.written(4), other.written(4))
        assert_equality(self, one, other, False)

    def test_not_equal_to_anything_else(self):
        class Alike:
            book, shares = Book(2, []), []

        table = Table(Book(2, []), [])
        for other in [None, 0, "", [], (), (Book(2, []), []), Book(2, []), {}, Alike(), Table]:
            assert_equality(self, table, other, False)
        self.assertIs(table == mock.ANY, False)
        self.assertIs(table != mock.ANY, True)

    def test_table_named(self):
        for base, rows, _ in samples():
            book = Book(base, rows)
            for at, (name, _, _) in enumerate(rows):
                table = table_named(book, name)
                self.assertIs(type(table), Table)
                self.assertEqual(table.book, book)
                self.assertEqual(table.shares, [int(k == at) for k in range(len(rows))])
                self.assertEqual(table, Table(book, [int(k == at) for k in range(len(rows))]))

    def test_table_named_by_a_name_that_there_is_not(self):
        for book in [Book(2, ROWS_OF_BITS), Book(2, []), Book(3, [])]:
            for name in ["a", "z", "", "X", "xn", "x'", "x "]:
                with self.assertRaises(InvalidName) as caught:
                    table_named(book, name)
                self.assertEqual(caught.exception.value, name)


class Written(unittest.TestCase):
    """Promise 6."""

    def test_the_example(self):
        bits = Book(2, ROWS_OF_BITS)
        xor = table_named(bits, "x")
        with at_once():
            found = [xor.entry(3, 5, 3), xor.written(2), xor.entry(100, 2 ** 99, 1) == 2 ** 99 + 1,
                     Table(bits, [1, 2, 0, 0, 0]).entry(3, 5, 3), bits.names, bits.start_of("p"),
                     bits.blocks_of("n")[1]]
        self.assertEqual(found, [
            6, [[0, 1, 2, 3], [1, 0, 3, 2], [2, 3, 0, 1], [3, 2, 1, 0]], True, 8, ["x", "n", "r", "c", "p"], 1,
            [[(1, "n")], [(1, "n"), (1, "p")]],
        ])

    def test_all_levels_that_may_be_written(self):
        for base, rows, shares in samples():
            table = Table(Book(base, rows), shares)
            for level in range(MOST[base] + 1):
                wanted = mixed(squares_of(base, rows, level), rows, shares)
                self.assertEqual(table.written(level), wanted)

    def test_each_named_table(self):
        for base, rows, _ in samples():
            book = Book(base, rows)
            squares = squares_of(base, rows, 3)
            for name in book.names:
                self.assertEqual(table_named(book, name).written(3), squares[name])

    def test_entry_tells_the_same(self):
        for base, rows, shares in samples():
            table = Table(Book(base, rows), shares)
            for level in range(4):
                side = base ** level
                found = [[table.entry(level, row, column) for column in range(side)] for row in range(side)]
                self.assertEqual(found, table.written(level))

    def test_level_0_is_the_start(self):
        self.assertEqual(Table(Book(2, ROWS_OF_SIGNS), [1, 10, 100, 1000]).written(0), [[1111]])
        book = Book(3, [("a", -99, zero_blocks(3)), ("b", 98, zero_blocks(3))])
        self.assertEqual(table_named(book, "a").written(0), [[-99]])
        self.assertEqual(Table(book, [2, 3]).entry(0, 0, 0), 96)

    def test_block_rows_and_block_columns(self):
        # Four unlike blocks, so that a row taken for a column, or a first digit for a last one, shows.
        named = [("a", 0, [[[(1, "a"), (1, "o")], [(1, "a"), (2, "o")]], [[(1, "a"), (3, "o")], [(1, "a"), (4, "o")]]]),
                 ("o", 1, [[[(10, "o")], [(10, "o")]], [[(10, "o")], [(10, "o")]]])]
        self.assertEqual(table_named(Book(2, named), "a").written(2), [
            [11, 12, 21, 22], [13, 14, 23, 24], [31, 32, 41, 42], [33, 34, 43, 44]])
        self.assertEqual(table_named(Book(2, named), "a").entry(2, 1, 2), 23)

    def test_empty_blocks_names_twice_and_coefficients_0(self):
        blocks = [[[], [(1, "a"), (1, "a")]], [[(0, "a")], [(2, "a"), (0, "a"), (-3, "a")]]]
        table = table_named(Book(2, [("a", 5, blocks)]), "a")
        self.assertEqual(table.written(1), [[0, 10], [0, -5]])
        self.assertEqual(table.written(2), [[0, 0, 0, 20], [0, 0, 0, -10], [0, 0, 0, -10], [0, 0, 0, 5]])
        self.assertEqual([table.entry(2, 3, column) for column in range(4)], [0, 0, 0, 5])

    def test_shares_0(self):
        table = Table(Book(2, ROWS_OF_BITS), [0, 0, 0, 0, 0])
        self.assertEqual(table.written(2), [[0] * 4] * 4)
        self.assertEqual(Table(Book(2, ROWS_OF_BITS), [0, 0, 1, 0, 0]).written(1), [[0, 0], [1, 1]])

    def test_books_without_named_tables(self):
        for base in (2, 3):
            table = Table(Book(base, []), [])
            self.assertEqual([table.shares, table.book], [[], Book(base, [])])
            for level in range(4):
                side = base ** level
                self.assertEqual(table.written(level), [[0] * side for _ in range(side)])
            self.assertEqual(table.entry(0, 0, 0), 0)
            with at_once():
                self.assertEqual(table.entry(100, base ** 100 - 1, 0), 0)

    def test_rows_are_new_lists(self):
        for table in [table_named(Book(2, ROWS_OF_BITS), "x"), table_named(Book(2, ROWS_OF_BITS), "r"),
                      Table(Book(2, []), [])]:
            wanted = copy.deepcopy(table.written(2))
            first, second = table.written(2), table.written(2)
            self.assertIsNot(first, second)
            self.assertEqual(len({id(line) for line in first + second}), 8)
            first[0][0] = 77
            first[1].append(77)
            first.pop()
            self.assertEqual(second, wanted)
            self.assertEqual(table.written(2), wanted)
            self.assertEqual({type(line) for line in second}, {list})

    def test_shares_that_are_far_out(self):
        book = Book(2, ROWS_OF_BITS)
        far = 10 ** 30
        self.assertEqual(Table(book, [far, 0, 0, 0, -far]).written(1), [[-2 * far, -far], [-far, -2 * far]])


class FarLevels(unittest.TestCase):
    """Promise 7."""

    def places(self, base, level, seed):
        last = base ** level - 1
        chance = random.Random(seed)
        for row, column in [(0, 0), (last, last), (0, last), (last, 0), (last // 2, last // 3)]:
            yield row, column
        for _ in range(4):
            yield chance.randint(0, last), chance.randint(0, last)

    def test_entries_of_far_levels(self):
        with at_once():
            for at, (base, rows, shares) in enumerate(samples()):
                table = Table(Book(base, rows), shares)
                for level in [6, 7, 20, 63, 64, 99, 100]:
                    for row, column in self.places(base, level, at):
                        wanted = entry_of(base, rows, shares, level, row, column)
                        self.assertEqual(table.entry(level, row, column), wanted)

    def test_levels_somewhat_beyond(self):
        with at_once():
            rows = table_named(Book(3, ROWS_OF_THREES), "r")
            self.assertEqual(rows.entry(130, 3 ** 130 - 1, 0), 3 ** 130 - 1)

    def test_single_digits_of_far_rows_and_columns(self):
        bits = Book(2, ROWS_OF_BITS)
        rows, columns, xor = [table_named(bits, name) for name in "rcx"]
        with at_once():
            for n in range(100):
                self.assertEqual(rows.entry(100, 2 ** n, 0), 2 ** n)
                self.assertEqual(columns.entry(100, 0, 2 ** n), 2 ** n)
                self.assertEqual(rows.entry(100, 0, 2 ** n), 0)
                self.assertEqual(xor.entry(100, 2 ** n, 2 ** 100 - 1), 2 ** 100 - 1 - 2 ** n)

    def test_many_calls(self):
        table = Table(Book(2, ROWS_OF_BITS), [1, 2, -1, -1, 0])
        with at_once():
            for n in range(1000):
                self.assertEqual(table.entry(100, 2 ** 100 - 1 - n * n, n ** 5), 0)

    def test_types_of_far_entries(self):
        with at_once():
            self.assertIs(type(table_named(Book(2, ROWS_OF_BITS), "x").entry(100, 2 ** 99, 1)), int)


class Errors(unittest.TestCase):
    """Promise 8."""

    def assert_raises(self, kind, value, call, *told):
        with self.assertRaises(kind) as caught:
            call(*told)
        self.assertIs(type(caught.exception), kind)
        self.assertEqual(caught.exception.value, value)
        self.assertIs(type(caught.exception.value), type(value))

    def tables(self):
        yield 2, table_named(Book(2, ROWS_OF_BITS), "x")
        yield 3, table_named(Book(3, ROWS_OF_THREES), "x")
        yield 2, Table(Book(2, []), [])
        yield 3, Table(Book(3, []), [])

    def test_negative_levels(self):
        for _, table in self.tables():
            for level in [-1, -2, -100, -10 ** 30]:
                self.assert_raises(InvalidLevel, level, table.entry, level, 0, 0)
                self.assert_raises(InvalidLevel, level, table.written, level)

    def test_level_comes_before_place(self):
        for _, table in self.tables():
            for row, column in [(-1, 0), (0, -1), (5, 5), (10 ** 30, -10 ** 30)]:
                self.assert_raises(InvalidLevel, -1, table.entry, -1, row, column)

    def test_places_outside(self):
        for base, table in self.tables():
            for level in [0, 1, 2, 5, 100]:
                side = base ** level
                for wrong in [-1, -side, side, side + 1, -10 ** 60, 10 ** 60]:
                    for row, column in [(wrong, 0), (0, wrong), (wrong, wrong), (wrong, side - 1), (side - 1, wrong)]:
                        self.assert_raises(InvalidPlace, (row, column), table.entry, level, row, column)

    def test_places_at_the_edge(self):
        for base, table in self.tables():
            for level in [0, 1, 2, 5, 100]:
                last = base ** level - 1
                for row, column in [(0, 0), (0, last), (last, 0), (last, last)]:
                    with at_once():
                        self.assertIs(type(table.entry(level, row, column)), int)

    def test_errors_change_nothing(self):
        table = table_named(Book(2, ROWS_OF_BITS), "x")
        wanted = table.written(3)
        self.assert_raises(InvalidPlace, (8, 0), table.entry, 3, 8, 0)
        self.assert_raises(InvalidLevel, -3, table.entry, -3, 0, 0)
        self.assertEqual(table.written(3), wanted)
        self.assertEqual(table, table_named(Book(2, ROWS_OF_BITS), "x"))


if __name__ == "__main__":
    unittest.main()

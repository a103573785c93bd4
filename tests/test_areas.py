"""Promises 10 to 14: sums of levels, of diagonals and of rectangles."""

import inspect
import random
import unittest

from blockbooks.areas import area_sum, total_at, trace_at
from blockbooks.books import Book
from blockbooks.errors import InvalidArea, InvalidLevel, InvalidPlace
from blockbooks.tables import Table, table_named
from tests.helper import (
    ROWS_OF_BITS, ROWS_OF_SIGNS, ROWS_OF_THREES, assert_error, at_once, random_rows, random_shares, sparse_rows,
)
from tests.test_known_tables import ALL


def samples():
    """Return tables of books of both bases, some without named tables, some that are always 0."""
    found = [
        Table(Book(2, ROWS_OF_BITS), [1, 2, -1, -1, 5]), Table(Book(2, ROWS_OF_SIGNS), [3, -2, 1, 0]),
        Table(Book(3, ROWS_OF_THREES), [1, -1, 2, 0, 4, -3]), Table(Book(2, []), []), Table(Book(3, []), []),
        Table(Book(2, ROWS_OF_BITS), [0] * 5), Table(Book(2, ROWS_OF_BITS), [1, 2, -1, -1, 0]),
    ]
    for seed in range(8):
        base, many = 2 + seed % 2, 1 + seed % 6
        found.append(Table(Book(base, random_rows(seed, base, many)), random_shares(seed, many)))
        found.append(Table(Book(base, sparse_rows(seed, base, many)), random_shares(seed, many)))
    return found


def near(table):
    return range({2: 6, 3: 4}[table.book.base])


def summed(table, level, first, last):
    """Return the sum of the entries of a rectangle, one by one."""
    lines = table.written(level)[first[0]:last[0] + 1]
    return sum(sum(line[first[1]:last[1] + 1]) for line in lines)


class Sums(unittest.TestCase):
    """Promise 10."""

    def test_interface(self):
        for call, names in [(total_at, ["table", "level"]), (trace_at, ["table", "level"]),
                            (area_sum, ["table", "level", "first", "last"])]:
            self.assertEqual(call.__module__, "blockbooks.areas")
            self.assertEqual(list(inspect.signature(call).parameters), names)

    def test_near_levels(self):
        for table in samples():
            for level in near(table):
                rows = table.written(level)
                self.assertEqual(total_at(table, level), sum(map(sum, rows)))
                self.assertEqual(trace_at(table, level), sum(row[at] for at, row in enumerate(rows)))

    def test_by_position_and_by_name(self):
        table = Table(Book(2, ROWS_OF_BITS), [1, 0, 0, 0, 3])
        self.assertEqual(total_at(level=2, table=table), 24 + 16 * 12)
        self.assertEqual(total_at(table, level=2), 24 + 16 * 12)
        self.assertEqual(trace_at(level=2, table=table), 4 * 12)
        self.assertEqual(trace_at(table, level=2), 4 * 12)

    def test_level_0_is_the_start(self):
        for table in samples():
            start = table.entry(0, 0, 0)
            self.assertEqual([total_at(table, 0), trace_at(table, 0), area_sum(table, 0, (0, 0), (0, 0))], [start] * 3)

    def test_diagonal_blocks_only(self):
        # Four unlike blocks, so that one taken for another shows.
        rows = [("a", 0, [[[(1, "o")], [(10, "o")]], [[(100, "o")], [(1000, "o")]]]),
                ("o", 1, [[[(1, "o")], [(2, "o")]], [[(3, "o")], [(5, "o")]]])]
        table = table_named(Book(2, rows), "a")
        self.assertEqual([trace_at(table, 1), trace_at(table, 2)], [1001, 1001 * 6])
        self.assertEqual([total_at(table, 1), total_at(table, 2)], [1111, 1111 * 11])

    def test_far_levels_by_their_blocks(self):
        # A level is made of the squares that its blocks have one level before.
        with at_once():
            for table in samples():
                base, book = table.book.base, table.book
                blocks = [[self.block_of(table, i, j) for j in range(base)] for i in range(base)]
                for level in [4, 7, 30, 99, 100]:
                    totals = [total_at(Table(book, shares), level - 1) for line in blocks for shares in line]
                    self.assertEqual(total_at(table, level), sum(totals))
                    traces = [trace_at(Table(book, blocks[i][i]), level - 1) for i in range(base)]
                    self.assertEqual(trace_at(table, level), sum(traces))

    def block_of(self, table, i, j):
        book = table.book
        found = [0] * len(book.names)
        for share, name in zip(table.shares, book.names):
            for coefficient, other in book.blocks_of(name)[i][j]:
                found[book.names.index(other)] += share * coefficient
        return found

    def test_far_levels_at_once(self):
        with at_once(10):
            for table in samples():
                for level in range(90, 101):
                    self.assertIs(type(total_at(table, level)), int)
                    self.assertIs(type(trace_at(table, level)), int)
            self.assertEqual(total_at(Table(Book(3, []), []), 100), 0)
            self.assertEqual(trace_at(Table(Book(3, []), []), 100), 0)
            self.assertEqual(total_at(table_named(Book(3, ROWS_OF_THREES), "p"), 130), 3 ** 390)


class NearRectangles(unittest.TestCase):
    """Promise 11."""

    def test_all_rectangles_of_level_2(self):
        for table in samples():
            side = table.book.base ** 2
            spots = [(row, column) for row in range(side) for column in range(side)]
            chance = random.Random(side)
            pairs = [(a, b) for a in spots for b in spots if a[0] <= b[0] and a[1] <= b[1]]
            for first, last in chance.sample(pairs, min(len(pairs), 150)):
                self.assertEqual(area_sum(table, 2, first, last), summed(table, 2, first, last))

    def test_all_rectangles_of_a_table(self):
        for table in [Table(Book(2, ROWS_OF_BITS), [1, 0, 0, 7, 1]), Table(Book(3, ROWS_OF_THREES), [0, 1, 2, 3, 4, 5])]:
            side = table.book.base ** 2
            for top in range(side):
                for bottom in range(top, side):
                    for left in range(side):
                        for right in range(left, side):
                            first, last = (top, left), (bottom, right)
                            self.assertEqual(area_sum(table, 2, first, last), summed(table, 2, first, last))

    def test_rectangles_of_near_levels(self):
        chance = random.Random(11)
        for table in samples():
            for level in near(table):
                last = table.book.base ** level - 1
                for _ in range(12):
                    rows = sorted([chance.randint(0, last), chance.randint(0, last)])
                    columns = sorted([chance.randint(0, last), chance.randint(0, last)])
                    corners = (rows[0], columns[0]), (rows[1], columns[1])
                    self.assertEqual(area_sum(table, level, *corners), summed(table, level, *corners))

    def test_one_entry_one_row_one_column_and_all(self):
        for table in samples():
            for level in near(table):
                rows, last = table.written(level), table.book.base ** level - 1
                for at in range(0, last + 1, 1 + level // 2):
                    self.assertEqual(area_sum(table, level, (at, 0), (at, last)), sum(rows[at]))
                    self.assertEqual(area_sum(table, level, (0, at), (last, at)), sum(row[at] for row in rows))
                    self.assertEqual(area_sum(table, level, (at, last - at), (at, last - at)), rows[at][last - at])
                self.assertEqual(area_sum(table, level, (0, 0), (last, last)), sum(map(sum, rows)))

    def test_both_corners_belong_to_it(self):
        columns = table_named(Book(2, ROWS_OF_BITS), "c")
        self.assertEqual(area_sum(columns, 3, (2, 5), (2, 6)), 11)
        self.assertEqual(area_sum(columns, 3, (2, 5), (3, 5)), 10)
        self.assertEqual(area_sum(columns, 3, (2, 5), (4, 7)), 54)

    def test_by_name(self):
        xor = table_named(Book(2, ROWS_OF_BITS), "x")
        self.assertEqual(area_sum(last=(2, 2), first=(1, 1), level=2, table=xor), 6)
        self.assertEqual(area_sum(xor, 2, last=(2, 2), first=(1, 1)), 6)


class FarRectangles(unittest.TestCase):
    """Promise 12."""

    def corners(self, base, level, chance):
        last = base ** level - 1
        spots = sorted(chance.randint(0, last) for _ in range(2)), sorted(chance.randint(0, last) for _ in range(2))
        yield (0, 0), (last, last)
        yield (0, spots[1][0]), (last, spots[1][0])
        yield (spots[0][0], 0), (spots[0][0], last)
        yield (spots[0][0], spots[1][0]), (spots[0][1], spots[1][1])
        yield (0, 0), (spots[0][1], spots[1][1])
        yield (spots[0][0], spots[1][0]), (last, last)
        yield (last, 0), (last, last - 1)
        yield (last // 3, last // 2), (last // 3 + 1, last // 2 + 1)

    def test_cut_in_two_they_add_up(self):
        chance = random.Random(12)
        with at_once(60):
            for table in samples()[:11]:
                for level in [20, 64, 100]:
                    for first, last in self.corners(table.book.base, level, chance):
                        whole = area_sum(table, level, first, last)
                        if first[0] < last[0]:
                            cut = chance.randint(first[0], last[0] - 1)
                            parts = [(first, (cut, last[1])), ((cut + 1, first[1]), last)]
                            self.assertEqual(whole, sum(area_sum(table, level, *part) for part in parts))
                        if first[1] < last[1]:
                            cut = chance.randint(first[1], last[1] - 1)
                            parts = [(first, (last[0], cut)), ((first[0], cut + 1), last)]
                            self.assertEqual(whole, sum(area_sum(table, level, *part) for part in parts))

    def test_one_place_is_the_entry(self):
        chance = random.Random(13)
        with at_once():
            for table in samples():
                for level in [5, 50, 99, 100]:
                    last = table.book.base ** level - 1
                    for spot in [(0, 0), (last, last), (0, last), (last, 0),
                                 (chance.randint(0, last), chance.randint(0, last))]:
                        self.assertEqual(area_sum(table, level, spot, spot), table.entry(level, *spot))

    def test_few_places(self):
        chance = random.Random(14)
        with at_once():
            for table in samples():
                last = table.book.base ** 100 - 1
                row, column = chance.randint(0, last - 3), chance.randint(0, last - 3)
                wanted = sum(table.entry(100, row + i, column + j) for i in range(3) for j in range(4))
                self.assertEqual(area_sum(table, 100, (row, column), (row + 2, column + 3)), wanted)

    def test_all_of_a_level_is_total_at(self):
        with at_once():
            for table in samples():
                for level in [0, 1, 3, 10, 77, 100]:
                    last = table.book.base ** level - 1
                    self.assertEqual(area_sum(table, level, (0, 0), (last, last)), total_at(table, level))

    def test_a_block_is_a_rectangle(self):
        with at_once():
            signs = Book(2, ROWS_OF_SIGNS)
            half = 2 ** 99
            hadamard = table_named(signs, "h")
            wanted = total_at(hadamard, 99)
            self.assertEqual(area_sum(hadamard, 100, (half, 0), (2 * half - 1, half - 1)), wanted)
            self.assertEqual(area_sum(hadamard, 100, (half, half), (2 * half - 1, 2 * half - 1)), -wanted)

    def test_many_calls(self):
        xor = table_named(Book(2, ROWS_OF_BITS), "x")
        with at_once():
            for at in range(100):
                self.assertEqual(area_sum(xor, 100, (0, at), (1, at)), at + (at ^ 1))


class Errors(unittest.TestCase):
    """Promise 13."""

    def test_negative_levels(self):
        for table in samples()[:6]:
            for level in [-1, -2, -100, -10 ** 30]:
                assert_error(self, InvalidLevel, level, total_at, table, level)
                assert_error(self, InvalidLevel, level, trace_at, table, level)
                for first, last in [((0, 0), (0, 0)), ((-1, 0), (0, 5)), ((5, 5), (0, 0)), ((0, 0), (-1, -1))]:
                    assert_error(self, InvalidLevel, level, area_sum, table, level, first, last)

    def test_corners_outside(self):
        for table in samples()[:6]:
            for level in [0, 1, 3, 100]:
                side = table.book.base ** level
                for wrong in [-1, side, -side, side + 1, 10 ** 60, -10 ** 60]:
                    for spot in [(wrong, 0), (0, wrong), (wrong, wrong), (side - 1, wrong), (wrong, side - 1)]:
                        assert_error(self, InvalidPlace, spot, area_sum, table, level, spot, (side - 1, side - 1))
                        assert_error(self, InvalidPlace, spot, area_sum, table, level, (0, 0), spot)

    def test_the_first_corner_comes_first(self):
        for table in samples()[:6]:
            for level in [0, 2, 100]:
                side = table.book.base ** level
                for first in [(-1, 0), (0, side), (side, -5)]:
                    for last in [(side, side), (-2, 0), (0, -2), (side + 7, 0)]:
                        assert_error(self, InvalidPlace, first, area_sum, table, level, first, last)
                        assert_error(self, InvalidPlace, last, area_sum, table, level, last, first)

    def test_the_last_corner_comes_before_the_area(self):
        table = samples()[0]
        for last in [(-1, 0), (0, -1), (-1, 8), (8, 0), (0, 8)]:
            assert_error(self, InvalidPlace, last, area_sum, table, 3, (7, 7), last)

    def test_areas_the_wrong_way_about(self):
        for table in samples()[:6]:
            for level in [1, 2, 100]:
                far = table.book.base ** level - 1
                for first, last in [((far, 0), (0, far)), ((0, far), (far, 0)), ((far, far), (0, 0)),
                                    ((far, far), (far - 1, far)), ((far, far), (far, far - 1)),
                                    ((1, 0), (0, 0)), ((0, 1), (0, 0))]:
                    assert_error(self, InvalidArea, (first, last), area_sum, table, level, first, last)

    def test_errors_by_name(self):
        table = samples()[0]
        assert_error(self, InvalidLevel, -1, total_at, table=table, level=-1)
        assert_error(self, InvalidLevel, -3, trace_at, level=-3, table=table)
        assert_error(self, InvalidArea, ((1, 1), (1, 0)), area_sum, last=(1, 0), first=(1, 1), level=1, table=table)

    def test_errors_change_nothing(self):
        table = samples()[0]
        before = table.written(3), total_at(table, 9)
        assert_error(self, InvalidArea, ((1, 1), (0, 0)), area_sum, table, 1, (1, 1), (0, 0))
        assert_error(self, InvalidPlace, (8, 0), area_sum, table, 3, (8, 0), (0, 0))
        self.assertEqual((table.written(3), total_at(table, 9)), before)


class KnownSums(unittest.TestCase):
    """Promise 14."""

    def test_the_example(self):
        xor = table_named(Book(2, ROWS_OF_BITS), "x")
        with at_once():
            found = [total_at(xor, 2), trace_at(xor, 2), area_sum(xor, 2, (1, 1), (2, 2)), area_sum(xor, 90, (0, 5), (1, 5))]
        self.assertEqual(found, [24, 0, 6, 9])

    def test_totals_and_traces(self):
        bits = {
            "x": (lambda n: 4 ** n * (2 ** n - 1) // 2, lambda n: 0),
            "n": (lambda n: 4 ** n * (2 ** n - 1) // 4, lambda n: 2 ** n * (2 ** n - 1) // 2),
            "r": (lambda n: 4 ** n * (2 ** n - 1) // 2, lambda n: 2 ** n * (2 ** n - 1) // 2),
            "c": (lambda n: 4 ** n * (2 ** n - 1) // 2, lambda n: 2 ** n * (2 ** n - 1) // 2),
            "p": (lambda n: 8 ** n, lambda n: 4 ** n),
        }
        signs = {
            "h": (lambda n: 2 ** n, lambda n: 0 ** n),
            "d": (lambda n: 4 ** n, lambda n: 4 ** n),
            "s": (lambda n: 3 ** n, lambda n: 2 ** n),
            "m": (lambda n: 1, lambda n: 2 ** n),
        }
        threes = {
            "r": (lambda n: 9 ** n * (3 ** n - 1) // 2, lambda n: 3 ** n * (3 ** n - 1) // 2),
            "c": (lambda n: 9 ** n * (3 ** n - 1) // 2, lambda n: 3 ** n * (3 ** n - 1) // 2),
            "x": (lambda n: 9 ** n * (3 ** n - 1) // 2, lambda n: 3 ** n * (3 ** n - 1) // 2),
            "p": (lambda n: 27 ** n, lambda n: 9 ** n),
            "s": (lambda n: 7 ** n, lambda n: 3 ** n),
            "m": (lambda n: 1, lambda n: 3 ** n),
        }
        with at_once():
            for (base, rows, _), told in zip(ALL, [bits, signs, threes]):
                for name, (total, trace) in told.items():
                    table = table_named(Book(base, rows), name)
                    for level in [*range(6), 20, 99, 100]:
                        self.assertEqual(total_at(table, level), total(level), (name, level))
                        self.assertEqual(trace_at(table, level), trace(level), (name, level))

    def test_small_rectangles_of_far_levels(self):
        chance = random.Random(15)
        with at_once():
            for base, rows, entry in ALL:
                for name, told in entry.items():
                    table = table_named(Book(base, rows), name)
                    for level in [4, 60, 100]:
                        row, column = chance.randint(0, base ** level - 4), chance.randint(0, base ** level - 5)
                        wanted = sum(told(level, row + i, column + j) for i in range(4) for j in range(5))
                        self.assertEqual(area_sum(table, level, (row, column), (row + 3, column + 4)), wanted)

    def test_wide_rectangles_of_rows_columns_and_powers(self):
        chance = random.Random(16)
        with at_once():
            for base, rows in [(2, ROWS_OF_BITS), (3, ROWS_OF_THREES)]:
                book = Book(base, rows)
                for level in [3, 30, 100]:
                    last = base ** level - 1
                    top, bottom = sorted(chance.randint(0, last) for _ in range(2))
                    left, right = sorted(chance.randint(0, last) for _ in range(2))
                    high, wide = bottom - top + 1, right - left + 1
                    found = [area_sum(table_named(book, name), level, (top, left), (bottom, right)) for name in "rcp"]
                    self.assertEqual(found, [
                        (top + bottom) * high // 2 * wide,
                        (left + right) * wide // 2 * high,
                        base ** level * high * wide,
                    ])

    def test_whole_rows_and_columns(self):
        with at_once():
            bits, signs = Book(2, ROWS_OF_BITS), Book(2, ROWS_OF_SIGNS)
            last = 2 ** 100 - 1
            for row in [0, 1, 2 ** 99, 2 ** 99 + 2 ** 50 + 7, last]:
                ones = bin(row).count("1")
                found = [area_sum(table_named(bits, name), 100, (row, 0), (row, last)) for name in "xn"]
                self.assertEqual(found, [last * 2 ** 99, row * 2 ** 99])
                found = [area_sum(table_named(signs, name), 100, (row, 0), (row, last)) for name in "hdsm"]
                self.assertEqual(found, [2 ** 100 if row == 0 else 0, 2 ** 100, 2 ** ones, int(row == 0)])
                found = [area_sum(table_named(signs, name), 100, (0, row), (last, row)) for name in "hdsm"]
                self.assertEqual(found, [2 ** 100 if row == 0 else 0, 2 ** 100, 2 ** (100 - ones), int(row == last)])


class Together(unittest.TestCase):
    """Promise 2 of the document: arguments stay, and tables may be passed on."""

    def test_arguments_stay(self):
        for table in samples():
            book, shares, rows = table.book, table.shares, table.written(2)
            total_at(table, 5), trace_at(table, 5), area_sum(table, 5, (1, 2), (3, 4))
            self.assertEqual((table.book, table.shares, table.written(2)), (book, shares, rows))


if __name__ == "__main__":
    unittest.main()

"""Sums of levels and of rectangles, which keep what they worked out, beside a plain way of reckoning."""

import random
import unittest

from blockbooks.areas import area_sum, total_at, trace_at
from blockbooks.books import Book
from blockbooks.corners import ENOUGH, FEW, MOST_CORNERS, MOST_EDGES
from blockbooks.errors import InvalidArea, InvalidLevel, InvalidPlace
from blockbooks.forms import plain
from blockbooks.tables import Table, table_named
from tests.helper import (
    ROWS_OF_BITS, ROWS_OF_SIGNS, ROWS_OF_THREES, assert_error, at_once, chain_rows, random_rows, random_shares, ring_rows,
    sparse_rows,
)
from tests.slow import Plainly


def full_rows(base):
    """Return six named tables, each of whose blocks has three terms."""
    return [(n, 1, [[[(9, "abcdef"[(i + j + k) % 6]), (-7, "abcdef"[(i + 2 * j + k + 1) % 6]), (5, n)] for i in range(base)]
                    for j in range(base)]) for k, n in enumerate("abcdef")]


def samples():
    """Return (base, rows) of few and many named tables."""
    found = [(2, ROWS_OF_BITS), (2, ROWS_OF_SIGNS), (3, ROWS_OF_THREES), (2, full_rows(2)), (3, full_rows(3)), (2, []), (3, [])]
    for seed in range(8):
        base, many = 2 + seed % 2, 1 + seed % 6
        found += [(base, random_rows(seed, base, many)), (base, sparse_rows(seed, base, many))]
    for base in (2, 3):
        # More named tables than those for which several levels are taken at once.
        found += [(base, random_rows(9, base, FEW + 1)), (base, random_rows(9, base, 13)), (base, sparse_rows(9, base, 14))]
        found += [(base, ring_rows(base, 5, (1, 1))), (base, chain_rows(base, [(1, 0)] * 5, [3] * 5, 2))]
    return found


def rectangle(chance, base, level):
    """Return two corners of a level, often at its ends and at the ends of blocks."""
    last = base ** level - 1

    def line():
        kind = chance.randrange(6)
        if kind == 0:
            return chance.choice([0, last])
        if kind == 1:
            return min(last, base ** chance.randint(0, level) - chance.randint(0, 1))
        return chance.randint(0, last)

    def lines():
        one = line()
        kind = chance.randrange(4)
        if kind == 0:
            # Close together, or in one block that is not the whole level.
            return sorted([one, min(last, one + chance.randrange(base ** chance.randint(0, level)))])
        if kind == 1:
            side = base ** chance.randint(0, level)
            return one - one % side, one - one % side + side - 1
        return sorted([one, line()])

    top, bottom = lines()
    left, right = lines()
    return (top, left), (bottom, right)


def summed(table, reckoned, *told):
    """Return the sum of multiples of what is reckoned of the named tables."""
    return sum(share * reckoned(name, *told) for share, name in zip(table.shares, table.book.names))


class Near(unittest.TestCase):
    """Entries added up."""

    def test_near_levels(self):
        chance = random.Random(10)
        with at_once(120):
            for seed, (base, rows) in enumerate(samples()):
                table = Table(Book(base, rows), random_shares(seed, len(rows)))
                for level in range(6 if base == 2 else 4):
                    written = table.written(level)
                    self.assertEqual(total_at(table, level), sum(map(sum, written)))
                    self.assertEqual(trace_at(table, level), sum(line[at] for at, line in enumerate(written)))
                    for _ in range(12):
                        first, last = rectangle(chance, base, level)
                        wanted = sum(sum(line[first[1]:last[1] + 1]) for line in written[first[0]:last[0] + 1])
                        self.assertEqual(area_sum(table, level, first, last), wanted)


class Far(unittest.TestCase):
    """The sums of the blocks one level lower."""

    def check(self, table, plainly, level, corners):
        self.assertEqual(total_at(table, level), summed(table, plainly.total, level))
        self.assertEqual(trace_at(table, level), summed(table, plainly.trace, level))
        self.assertEqual(area_sum(table, level, *corners), summed(table, plainly.area, level, *corners))

    def test_levels_upwards_and_in_any_sequence(self):
        with at_once(240):
            for seed, (base, rows) in enumerate(samples()):
                chance = random.Random(seed)
                book, plainly = Book(base, rows), Plainly(base, rows)
                tables = [Table(book, random_shares(seed, len(rows)))] + [table_named(book, name) for name in book.names[:2]]
                levels = [0, 1, 2, 15, 16, 17, 18, 19, 20, 31, 64, 97, 98, 99, 100] + [chance.randint(0, 100) for _ in range(5)]
                if seed % 2:
                    chance.shuffle(levels)
                for level in levels:
                    for table in tables[:1] if level > 20 else tables:
                        self.check(table, plainly, level, rectangle(chance, base, level))

    def test_the_first_and_the_further_ones_of_a_book(self):
        # The first corners go level by level, the further ones by several levels at once.
        for base, rows in [(2, ROWS_OF_BITS), (3, ROWS_OF_THREES), (2, full_rows(2)), (3, full_rows(3))]:
            chance = random.Random(base)
            book, plainly = Book(base, rows), Plainly(base, rows)
            table = Table(book, random_shares(base, len(rows)))
            asked = [(level, rectangle(chance, base, level)) for level in [100, 99, 98, 97, 16, 100] * 2]
            self.assertGreater(sum(4 * level for level, _ in asked), 2 * ENOUGH)
            for level, corners in asked + asked[::-1]:
                wanted = summed(table, plainly.area, level, *corners)
                self.assertEqual(area_sum(table, level, *corners), wanted)
                self.assertEqual(area_sum(Table(Book(base, rows), table.shares), level, *corners), wanted)

    def test_one_rectangle_of_a_book_made_anew(self):
        # Nothing is kept for so little: the rectangle is summed up by its parts.
        with at_once(120):
            for seed, (base, rows) in enumerate(samples()):
                chance, plainly = random.Random(seed), Plainly(base, rows)
                for level in [0, 1, 2, 3, 4, 5, 9, 20, 39, 40, 41, 100]:
                    for _ in range(3):
                        corners = rectangle(chance, base, level)
                        table = Table(Book(base, rows), random_shares(seed + level, len(rows)))
                        self.assertEqual(area_sum(table, level, *corners), summed(table, plainly.area, level, *corners))

    def test_small_and_narrow_rectangles(self):
        with at_once(120):
            for seed, (base, rows) in enumerate(samples()):
                chance, plainly = random.Random(seed), Plainly(base, rows)
                table = Table(Book(base, rows), random_shares(seed, len(rows)))
                for _ in range(40):
                    level = chance.choice([5, 17, 64, 99, 100])
                    last = base ** level - 1
                    wide = [base ** chance.randint(0, level) for _ in range(2)]
                    first = chance.randint(0, last), chance.choice([0, last, chance.randint(0, last)])
                    end = min(last, first[0] + chance.randrange(wide[0])), min(last, first[1] + chance.randrange(wide[1]))
                    for corners in [(first, end), (first[::-1], end[::-1])]:
                        self.assertEqual(area_sum(table, level, *corners), summed(table, plainly.area, level, *corners))

    def test_more_than_what_is_kept(self):
        # Corners and edges are forgotten when there are too many, and worked out anew.
        base, rows = 2, ROWS_OF_BITS
        table, plainly = table_named(Book(base, rows), "x"), Plainly(base, rows)
        first = [((at, 2 * at), (2 ** 30 + 7 * at, 2 ** 31 + at)) for at in range(MOST_CORNERS // 3)]
        with at_once(120):
            for corners in first + first[:MOST_EDGES] + first[-MOST_EDGES:]:
                self.assertEqual(area_sum(table, 32, *corners), plainly.area("x", 32, *corners))

    def test_all_tables_of_one_book_by_turns(self):
        for base, rows in [(2, ROWS_OF_BITS), (3, ROWS_OF_THREES), (2, sparse_rows(3, 2, 6)), (3, sparse_rows(5, 3, 6))]:
            chance = random.Random(7)
            book, plainly = Book(base, rows), Plainly(base, rows)
            for turn in range(3):
                for name in book.names + book.names[::-1]:
                    table = table_named(book, name)
                    level = chance.choice([3, 16, 40, 100])
                    self.check(table, plainly, level, rectangle(chance, base, level))
                    pairs = Table(book, [chance.choice([0, 0, 1, -5]) for _ in book.names])
                    self.check(pairs, plainly, level, rectangle(chance, base, level))

    def test_coefficients_and_shares_0(self):
        rows = [("a", 1, [[[(0, "b"), (2, "a")], [(1, "a")]], [[(0, "c")], []]]), ("b", 5, [[[(1, "b")]] * 2] * 2),
                ("c", 7, [[[(3, "a"), (-3, "a"), (1, "c")]] * 2] * 2)]
        plainly = Plainly(2, rows)
        book = Book(2, rows)
        chance = random.Random(1)
        for shares in [[1, 0, 0], [0, 1, 0], [0, 0, 1], [1, -1, 0], [0, 0, 0], [2, 3, 4]]:
            for level in [0, 1, 4, 50, 100]:
                self.check(Table(book, shares), plainly, level, rectangle(chance, 2, level))

    def test_plain_tables(self):
        chance = random.Random(3)
        for seed in range(6):
            base = 2 + seed % 2
            rows = random_rows(seed, base, 4)
            table, plainly = Table(Book(base, rows), random_shares(seed, 4)), Plainly(base, rows)
            form = plain(table)
            for level in [5, 60, 100]:
                corners = rectangle(chance, base, level)
                self.assertEqual(area_sum(form, level, *corners), summed(table, plainly.area, level, *corners))
                self.assertEqual(total_at(form, level), summed(table, plainly.total, level))


class Errors(unittest.TestCase):
    """Errors stay as they were, before and behind answers that are kept."""

    def test_errors(self):
        for base, rows in [(2, ROWS_OF_BITS), (3, full_rows(3))]:
            table = Table(Book(base, rows), random_shares(1, len(rows)))
            side = base ** 100
            for _ in range(6):
                assert_error(self, InvalidLevel, -1, total_at, table, -1)
                assert_error(self, InvalidLevel, -7, trace_at, table, -7)
                assert_error(self, InvalidLevel, -1, area_sum, table, -1, (-1, 0), (0, 0))
                assert_error(self, InvalidPlace, (side, 0), area_sum, table, 100, (side, 0), (0, side))
                assert_error(self, InvalidPlace, (0, side), area_sum, table, 100, (5, 5), (0, side))
                assert_error(self, InvalidArea, ((5, 5), (4, 9)), area_sum, table, 100, (5, 5), (4, 9))
                area_sum(table, 100, (5, 5), (side - 1, side - 2)), total_at(table, 100), trace_at(table, 100)


class Soon(unittest.TestCase):
    """Far levels, asked again and again."""

    def test_several_levels_at_once(self):
        for base in (2, 3):
            table = Table(Book(base, full_rows(base)), [1, 2, 3, 4, 5, 6])
            corners = table.book.system.corners(100)
            self.assertEqual(len(corners._way_to(100)), 100)
            for at in range(12):
                area_sum(table, 100, (at, 3 * at), (base ** 99 + at, base ** 98 + at))
            self.assertLessEqual(len(corners._way_to(100)), 50)
            self.assertIs(table.book.system.corners(100), corners)

    def test_totals_and_traces(self):
        with at_once(10):
            for base in (2, 3):
                table = Table(Book(base, full_rows(base)), [1, 2, 3, 4, 5, 6])
                for _ in range(100):
                    for level in range(101):
                        total_at(table, level), trace_at(table, level)

    def test_rectangles(self):
        chance = random.Random(2)
        for base, many in [(2, 800), (3, 400)]:
            table = Table(Book(base, full_rows(base)), [1, 2, 3, 4, 5, 6])
            last = base ** 100 - 1
            asked = [sorted([chance.randint(0, last) for _ in range(4)]) for _ in range(many)]
            with at_once(5):
                for top, left, bottom, right in asked:
                    area_sum(table, 100, (top, left), (bottom, right))
        with at_once(2):
            for _ in range(20000):
                area_sum(table, 100, (5, 7), (3 ** 99 + 3, 3 ** 100 - 2))


if __name__ == "__main__":
    unittest.main()

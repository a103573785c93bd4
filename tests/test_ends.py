"""Promises 29 (of alike_from), 30, 31, 51 and 56: the last levels of tables, and where tables become alike."""

import inspect
import random
import unittest

from blockbooks.books import Book
from blockbooks.ends import alike_from, last_level
from blockbooks.errors import UnlikeBases
from blockbooks.forms import plain
from blockbooks.joins import added, block_of, scaled
from blockbooks.parting import are_alike, classes, parting
from blockbooks.relations import mixture, relations
from blockbooks.tables import Table, table_named
from tests.helper import (
    assert_error, at_once, book_of, chain_rows, nothing, place_of, random_shares, random_table, ring_rows, sparse_rows,
    spot_table, zero_blocks,
)
from tests.slow import entries_below, places_below

SPOTS = [
    (2, [(0, 1), (1, 1), (0, 0), (1, 0), (1, 1)]), (3, [(2, 0), (1, 2), (0, 0), (2, 2), (1, 1)]), (2, [(0, 0)] * 5),
    (3, [(2, 2)] * 4), (2, [(1, 0)]), (3, [(0, 2), (1, 0)]), (2, []), (3, []),
]


def last_by_places(base, rows, shares):
    """Return what `last_level` must return for few named tables, place by place.

    A table that ends does so before the level that is the number of its named tables, and one that does
    not is not 0 at one of as many levels from there on.
    """
    many = len(rows)
    entries = entries_below(base, rows, shares, 2 * many)
    levels = {place[0] for place, entry in zip(places_below(base, 2 * many), entries) if entry}
    if any(level >= many for level in levels):
        return None
    return max(levels, default=-1)


class Last(unittest.TestCase):
    """Promise 30."""

    def test_interface(self):
        for call, names in [(last_level, ["table"]), (alike_from, ["table", "other_table"])]:
            self.assertEqual(call.__module__, "blockbooks.ends")
            self.assertEqual(list(inspect.signature(call).parameters), names)

    def test_the_example(self):
        bits = book_of("bits")
        few = Book(2, [("u", 0, [[[], [(1, "v")]], [[], []]]), ("v", 0, [[[(1, "w")], []], [[], []]]),
                       ("w", 1, [[[], []], [[], []]])])
        xor, rows = table_named(bits, "x"), table_named(bits, "r")
        found = [last_level(table_named(few, "u")), table_named(few, "u").entry(2, 0, 2), last_level(xor),
                 alike_from(Table(few, [1, 1, 0]), Table(few, [1, 0, 0])), alike_from(xor, rows)]
        self.assertEqual(found, [2, 1, None, 2, None])

    def test_place_by_place(self):
        kinds = set()
        for seed in range(120):
            base = 2 + seed % 2
            many = 1 + seed % (3 if base == 2 else 2)
            rows, shares = sparse_rows(seed, base, many), random_shares(seed, many)
            wanted = last_by_places(base, rows, shares)
            kinds.add(wanted)
            self.assertEqual(last_level(Table(Book(base, rows), shares)), wanted)
        self.assertLessEqual({None, -1, 0, 1}, kinds)

    def test_alike_from_place_by_place(self):
        for seed in range(60):
            rows, others = sparse_rows(seed, 2, 1), sparse_rows(300 + seed, 2, 2)
            names = dict(zip([name for name, _, _ in others], "yz"))
            others = [(names[name], start, [[[(c, names[n]) for c, n in block] for block in line] for line in blocks])
                      for name, start, blocks in others]
            rows = [("x", rows[0][1], [[[(c, "x") for c, _ in block] for block in line] for line in rows[0][2]])]
            one, two = random_shares(seed, 1), random_shares(40 + seed, 2)
            last = last_by_places(2, rows + others, one + [-share for share in two])
            wanted = None if last is None else last + 1
            table, other = Table(Book(2, rows), one), Table(Book(2, others), two)
            self.assertEqual(alike_from(table, other), wanted)
            self.assertEqual(alike_from(other, table), wanted)

    def test_always_0(self):
        for table in [nothing(2), nothing(3), Table(book_of("bits"), [1, 2, -1, -1, 0]), Table(book_of("signs"), [0] * 4)]:
            self.assertEqual(last_level(table), -1)
            self.assertEqual(alike_from(table, nothing(table.book.base)), 0)

    def test_tables_that_go_on(self):
        for kind in ["bits", "signs", "threes"]:
            book = book_of(kind)
            for name in book.names:
                self.assertIsNone(last_level(table_named(book, name)))
        # Not 0 at each second, each third level alone, and so on.
        for many in range(1, 7):
            for base in (2, 3):
                book = Book(base, ring_rows(base, many, (1, 0)))
                for name in book.names:
                    self.assertIsNone(last_level(table_named(book, name)))

    def test_a_difference_that_ends_of_tables_that_go_on(self):
        for base, spots in SPOTS:
            for level in range(len(spots) + 1):
                full = ("y", 4, [[[(i - 2 * j + 1, "y")] for j in range(base)] for i in range(base)])
                book = Book(base, chain_rows(base, spots[:level], [2] * level, 3) + [full])
                table, other = Table(book, [1] + [0] * level + [5]), Table(Book(base, [full]), [5])
                self.assertEqual(alike_from(table, other), level + 1)
                self.assertEqual(alike_from(other, table), level + 1)
                self.assertIsNone(last_level(table))

    def test_far_ends_come_soon(self):
        with at_once():
            for base in (2, 3):
                tables = [Table(Book(base, chain_rows(base, [(1, 1)] * 5, [9] * 5, 99)), [1] * 6) for _ in range(2)]
                self.assertEqual(last_level(tables[0]), 5)
                self.assertEqual(alike_from(tables[0], scaled(tables[1], 2)), 6)
                self.assertIsNone(alike_from(random_table(1, base, 6), random_table(2, base, 6)))
                self.assertEqual(alike_from(random_table(1, base, 6), plain(random_table(1, base, 6))), 0)

    def test_by_name(self):
        table = spot_table(2, [(0, 1)])
        self.assertEqual(last_level(table=table), 1)
        self.assertEqual(alike_from(other_table=table, table=nothing(2)), 2)


class OnePlace(unittest.TestCase):
    """Promise 31."""

    def test_one_place(self):
        for base, spots in SPOTS:
            table = spot_table(base, spots, -7)
            self.assertEqual(last_level(table), len(spots))
            self.assertEqual(alike_from(table, nothing(base)), len(spots) + 1)
            self.assertEqual(alike_from(table, spot_table(base, spots, -7)), 0)

    def test_sums_of_such_tables(self):
        for base in (2, 3):
            for low in range(4):
                for high in range(low, 5):
                    one, other = spot_table(base, [(1, 0)] * low, 5), spot_table(base, [(0, 1)] * high, 2)
                    both = added(one, other)
                    self.assertEqual(last_level(both), high)
                    self.assertEqual(alike_from(both, other), low + 1)
                    self.assertEqual(alike_from(one, other), high + 1)

    def test_sums_in_one_book(self):
        rows = chain_rows(2, [(0, 0), (0, 1), (1, 1)], [1] * 3, 4) + [("z", 9, zero_blocks(2))]
        for shares, wanted in [([1, 0, 0, 0, 0], 3), ([0, 1, 0, 0, 7], 2), ([0, 0, 0, 1, 0], 0), ([0, 0, 0, 9, -4], -1),
                               ([0, 0, 1, 0, 0], 1), ([0] * 5, -1), ([5, 6, 7, 8, 9], 3)]:
            self.assertEqual(last_level(Table(Book(2, rows), shares)), wanted)

    def test_beside_tables_that_never_end(self):
        for kind in ["bits", "signs"]:
            book = book_of(kind)
            ever = table_named(book, book.names[0])
            for level in range(4):
                once = spot_table(2, [(1, 1)] * level)
                self.assertIsNone(last_level(added(ever, once)))
                self.assertEqual(alike_from(added(ever, once), ever), level + 1)
                self.assertIsNone(alike_from(ever, once))

    def test_a_start_without_blocks(self):
        for base in (2, 3):
            table = table_named(Book(base, [("a", 3, zero_blocks(base))]), "a")
            self.assertEqual(last_level(table), 0)
            self.assertEqual(alike_from(table, nothing(base)), 1)


class Errors(unittest.TestCase):
    """Promise 29."""

    def test_alike_from(self):
        for two in [nothing(2), table_named(book_of("bits"), "x")]:
            for three in [nothing(3), table_named(book_of("threes"), "x")]:
                assert_error(self, UnlikeBases, (2, 3), alike_from, two, three)
                assert_error(self, UnlikeBases, (3, 2), alike_from, other_table=two, table=three)


class OneMore(unittest.TestCase):
    """Promise 51: tables with a number more at one place."""

    def test_one_more(self):
        chance = random.Random(51)
        for seed in range(30):
            base = 2 + seed % 2
            table = random_table(seed, base, 1 + seed % 3, sparse=seed % 4 < 2)
            spots = [(chance.randrange(base), chance.randrange(base)) for _ in range(chance.randint(0, 4))]
            number = chance.choice([-99, -1, 1, 7])
            once = spot_table(base, spots, number)
            more = added(table, once)
            place = place_of(base, spots)
            self.assertEqual(parting(more, table), (*place, number))
            self.assertEqual(parting(table, more), (*place, -number))
            self.assertEqual(alike_from(more, table), place[0] + 1)
            self.assertEqual(last_level(added(more, scaled(table, -1))), place[0])
            self.assertEqual(classes([table, more, table]), [[0, 2], [1]])
            if relations([table, once]) == []:
                self.assertEqual(mixture(more, [table, once]), [1, 1])
                self.assertEqual(relations([more, table, once]), [[1, -1, -1]])
            self.assertTrue(are_alike(added(more, scaled(once, -1)), table))


class Onwards(unittest.TestCase):
    """Promise 56."""

    def test_no_entry_is_unlike_from_there_on(self):
        chance = random.Random(56)
        for seed in range(40):
            base = 2 + seed % 2
            rows = sparse_rows(seed, base, 3)
            table, other = [Table(Book(base, rows), [chance.randint(0, 2) for _ in range(3)]) for _ in range(2)]
            first = alike_from(table, other)
            if first is not None:
                for level in range(first, min(first + 3, 6 if base == 2 else 4)):
                    self.assertEqual(table.written(level), other.written(level))
                if first > 0:
                    place = parting(table, other)
                    self.assertLess(place[0], first)
                    self.assertNotEqual(table.written(first - 1), other.written(first - 1))

    def test_last_levels_of_sums_and_blocks(self):
        for base in (2, 3):
            tables = [spot_table(base, [(1, 0), (0, 1), (1, 1)][:level], number) for level in range(4) for number in (1, -1, 3)]
            for table in tables:
                for other in tables:
                    last, ends = last_level(added(table, other)), [last_level(table), last_level(other)]
                    self.assertLessEqual(last, max(ends))
                    if ends[0] != ends[1]:
                        self.assertEqual(last, max(ends))
                blocks = [last_level(block_of(table, i, j)) for i in range(base) for j in range(base)]
                self.assertEqual(max(blocks), max(last_level(table) - 1, -1))


if __name__ == "__main__":
    unittest.main()

"""Promises 20 to 24: where tables part, which are alike, and the classes of alike ones."""

import inspect
import itertools
import random
import unittest

from blockbooks.books import Book
from blockbooks.errors import UnlikeBases
from blockbooks.forms import plain
from blockbooks.parting import are_alike, classes, parting
from blockbooks.tables import Table, table_named
from tests.helper import (
    ROWS_OF_BITS, ROWS_OF_SIGNS, ROWS_OF_THREES, assert_error, at_once, chain_rows, place_of, random_rows, random_shares,
    sparse_rows, zero_blocks,
)
from tests.slow import entries_below, places_below


def parted(base, told, other_told, levels):
    """Return what `parting` must return, place by place."""
    entries, others = [entries_below(base, rows, shares, levels) for rows, shares in (told, other_told)]
    for place, entry, other in zip(places_below(base, levels), entries, others):
        if entry != other:
            return (*place, entry - other)
    return None


def small_samples():
    """Return (base, (rows, shares), (rows, shares)) of one book and of two, few named tables together."""
    for seed in range(40):
        base, many = 2 + seed % 2, 1 + seed // 2 % 2
        rows, others = sparse_rows(seed, base, many), sparse_rows(500 + seed, base, many)
        zero = [0] * many
        yield base, (rows, random_shares(seed, many)), (rows, random_shares(900 + seed, many))
        yield base, (rows, random_shares(seed, many)), (others, random_shares(900 + seed, many))
        yield base, (rows, [1] + zero[1:]), (rows, zero)
        yield base, (rows, [1] + zero[1:]), ([], [])
        yield base, (random_rows(seed, base, many), zero), (others, [1] + zero[1:])


class Parting(unittest.TestCase):
    """Promise 20."""

    def test_interface(self):
        for call, names in [(parting, ["table", "other_table"]), (are_alike, ["table", "other_table"]), (classes, ["tables"])]:
            self.assertEqual(call.__module__, "blockbooks.parting")
            self.assertEqual(list(inspect.signature(call).parameters), names)

    def test_the_example(self):
        bits = Book(2, ROWS_OF_BITS)
        xor, rows, columns = [table_named(bits, name) for name in "xrc"]
        found = [parting(xor, rows), classes([xor, rows, xor]), are_alike(rows, columns)]
        self.assertEqual(found, [(1, 0, 1, 1), [[0, 2], [1]], False])

    def test_place_by_place(self):
        for base, told, other_told in small_samples():
            table, other = [Table(Book(base, rows), shares) for rows, shares in (told, other_told)]
            wanted = parted(base, told, other_told, max(1, len(told[0]) + len(other_told[0])))
            self.assertEqual(parting(table, other), wanted)
            self.assertIs(are_alike(table, other), wanted is None)

    def test_place_by_place_of_late_levels(self):
        for seed in range(30):
            for many in (4, 5):
                rows = sparse_rows(seed, 2, many)
                table = Table(Book(2, rows), [1] + [0] * (many - 1))
                for at in range(1, many):
                    shares = [int(k == at) for k in range(many)]
                    wanted = parted(2, (rows, table.shares), (rows, shares), many)
                    self.assertEqual(parting(table, Table(table.book, shares)), wanted)

    def test_the_other_way_about(self):
        for base, told, other_told in small_samples():
            table, other = [Table(Book(base, rows), shares) for rows, shares in (told, other_told)]
            found, turned = parting(table, other), parting(other, table)
            if found is None:
                self.assertIsNone(turned)
            else:
                self.assertIs(type(found), tuple)
                self.assertEqual([type(number) for number in found], [int] * 4)
                self.assertEqual(turned, (*found[:3], -found[3]))
                self.assertEqual(found[3], table.entry(*found[:3]) - other.entry(*found[:3]))
            self.assertIs(are_alike(table, other), are_alike(other, table))

    def test_level_0(self):
        signs = Book(2, ROWS_OF_SIGNS)
        self.assertEqual(parting(Table(signs, [3, 0, 0, 0]), Table(signs, [0, 0, -4, 0])), (0, 0, 0, 7))
        self.assertEqual(parting(Table(Book(3, []), []), table_named(Book(3, ROWS_OF_THREES), "p")), (0, 0, 0, -1))

    def test_rows_come_before_columns(self):
        for entries, wanted in [([0, 2, 3, 4], (1, 0, 1, 2)), ([0, 0, 3, 4], (1, 1, 0, 3)), ([0, 0, 0, 4], (1, 1, 1, 4))]:
            blocks = [[[(entries[2 * i + j], "o")] for j in range(2)] for i in range(2)]
            table = table_named(Book(2, [("a", 0, blocks), ("o", 1, zero_blocks(2))]), "a")
            self.assertEqual(parting(table, Table(Book(2, []), [])), wanted)
        rows = [("u", 0, [[[(1, "v")], [(1, "w")]], [[], []]]), ("v", 0, [[[], []], [[(1, "o")], []]]),
                ("w", 0, [[[], [(5, "o")]], [[], []]]), ("o", 1, zero_blocks(2))]
        self.assertEqual(parting(table_named(Book(2, rows), "u"), Table(Book(2, []), [])), (2, 0, 3, 5))

    def test_by_position_and_by_name(self):
        bits = Book(2, ROWS_OF_BITS)
        xor, rows = table_named(bits, "x"), table_named(bits, "r")
        self.assertEqual(parting(other_table=rows, table=xor), (1, 0, 1, 1))
        self.assertEqual(parting(xor, other_table=rows), (1, 0, 1, 1))
        self.assertIs(are_alike(other_table=rows, table=xor), False)
        self.assertIs(are_alike(table=xor, other_table=xor), True)
        self.assertEqual(classes(tables=[xor]), [[0]])

    def test_tables_that_are_always_0(self):
        nothing = Table(Book(2, []), [])
        for other in [nothing, Table(Book(2, ROWS_OF_BITS), [0] * 5), Table(Book(2, ROWS_OF_BITS), [1, 2, -1, -1, 0])]:
            self.assertIsNone(parting(nothing, other))
            self.assertIs(are_alike(other, nothing), True)

    def test_arguments_stay(self):
        table, other = Table(Book(2, ROWS_OF_BITS), [1, 2, 3, 4, 5]), Table(Book(2, ROWS_OF_SIGNS), [1, 2, 3, 4])
        tables = [table, other, table]
        parting(table, other), are_alike(table, other), classes(tables)
        self.assertEqual(len(tables), 3)
        self.assertIs(tables[1], other)
        self.assertEqual(table, Table(Book(2, ROWS_OF_BITS), [1, 2, 3, 4, 5]))
        self.assertEqual(other, Table(Book(2, ROWS_OF_SIGNS), [1, 2, 3, 4]))


class OnePlace(unittest.TestCase):
    """Promise 21."""

    SPOTS = [
        (2, [(0, 1), (1, 1), (0, 0), (1, 0), (1, 1)]), (3, [(2, 0), (1, 2), (0, 0), (2, 2), (1, 1)]), (3, [(2, 2)] * 5),
        (2, [(0, 0)] * 4), (2, [(1, 0)]), (3, [(0, 2), (1, 0)]), (2, []),
    ]

    def test_one_book(self):
        with at_once():
            for base, spots in self.SPOTS:
                book = Book(base, chain_rows(base, spots, [3] * len(spots), -7))
                table, nothing = table_named(book, "a"), Table(book, [0] * len(book.names))
                level, row, column = place_of(base, spots)
                wanted = (level, row, column, -7 * 3 ** level)
                self.assertEqual(parting(table, nothing), wanted)
                self.assertEqual(parting(Table(book, [2] + [0] * level), table), wanted)

    def test_two_books(self):
        with at_once():
            for base, spots in self.SPOTS:
                one = Book(base, chain_rows(base, spots, [1] * len(spots), 5))
                other = Book(base, chain_rows(base, spots, [1] * len(spots), 4, names="zyxwvu"))
                wanted = (*place_of(base, spots), 1)
                self.assertEqual(parting(table_named(one, "a"), table_named(other, "z")), wanted)
                self.assertIs(are_alike(table_named(one, "a"), table_named(other, "z")), False)

    def test_as_late_as_two_books_let(self):
        # The one table goes on with its sixth level again and again, the other one not: they are first
        # unlike at level 11, one less than the number of named tables of both books together.
        with at_once():
            for base, spots in [(2, [(0, 1), (1, 1), (0, 0), (1, 0), (1, 1)]), (3, [(2, 0), (1, 2), (0, 0), (2, 2), (1, 1)])]:
                rows = chain_rows(base, spots, [1] * 5, 1)
                blocks = zero_blocks(base)
                blocks[1][0] = [(2, "a")]
                ever = table_named(Book(base, rows[:5] + [("f", 1, blocks)]), "a")
                once = table_named(Book(base, rows), "a")
                place = place_of(base, spots + [(1, 0)] + spots)
                self.assertEqual(place[0], 11)
                self.assertEqual(parting(ever, once), (*place, 2))
                self.assertEqual(parting(once, ever), (*place, -2))
                self.assertEqual(ever.entry(*place) - once.entry(*place), 2)

    def test_a_place_within_much_else(self):
        # Both tables are full of entries, and the same but for one place of level 4 or none.
        for base, spots in [(2, [(1, 0), (0, 1), (1, 1), (1, 0)]), (3, [(1, 2), (2, 0), (0, 0), (2, 1)])]:
            full = ("y", 4, [[[(i - 2 * j + 1, "y")] for j in range(base)] for i in range(base)])
            book = Book(base, chain_rows(base, spots, [1] * 4, 3) + [full])
            other = Book(base, [full])
            with at_once():
                wanted = (*place_of(base, spots), 3)
                self.assertEqual(parting(Table(book, [1, 0, 0, 0, 0, 9]), Table(other, [9])), wanted)
                self.assertIsNone(parting(Table(book, [0, 0, 0, 0, 0, 9]), Table(other, [9])))


class Alike(unittest.TestCase):
    """Promise 22."""

    def doubled(self, base, rows, shares):
        """Return the same table by a book that tells all of it twice over."""
        letters = dict(zip([name for name, _, _ in rows], "mnopqrstuvwxyz"))
        own = {name: name for name in letters}
        written = []
        for names, others in [(own, letters), (letters, own)]:
            for name, start, blocks in rows:
                told = [[[(c, others[n]) for c, n in block] for block in line] for line in blocks]
                written.append((names[name], start, told))
        halves = [share // 2 for share in shares]
        return Table(Book(base, written), halves + [share - half for share, half in zip(shares, halves)])

    def test_written_otherwise(self):
        for seed in range(16):
            base, many = 2 + seed % 2, 1 + seed % 6
            for rows in [random_rows(seed, base, many), sparse_rows(seed, base, many)]:
                rows = self.with_early_names(rows)
                shares = random_shares(seed, many)
                table = Table(Book(base, rows), shares)
                others = [table, Table(Book(base, rows), shares), Table(Book(base, rows[::-1]), shares[::-1]),
                          self.doubled(base, rows, shares), plain(table)]
                with at_once():
                    for one, other in itertools.product(others, others):
                        self.assertIsNone(parting(one, other))
                        self.assertIs(are_alike(one, other), True)
                    self.assertEqual(classes(others), [[0, 1, 2, 3, 4]])

    def with_early_names(self, rows):
        letters = dict(zip([name for name, _, _ in rows], "abcdef"))
        return [(letters[name], start, [[[(c, letters[n]) for c, n in block] for block in line] for line in blocks])
                for name, start, blocks in rows]

    def test_multiples_part_where_the_table_is_first_not_0(self):
        for seed in range(20):
            base, many = 2 + seed % 2, 1 + seed % 6
            table = Table(Book(base, sparse_rows(seed, base, many)), random_shares(seed, many))
            first = parting(table, Table(Book(base, []), []))
            for factor in [-1, 0, 2, 3, 99]:
                other = Table(table.book, [factor * share for share in table.shares])
                wanted = None if first is None else (*first[:3], (1 - factor) * first[3])
                self.assertEqual(parting(table, other), wanted)

    def test_bits(self):
        bits = Book(2, ROWS_OF_BITS)
        self.assertIsNone(parting(Table(bits, [1, 2, 0, 0, 0]), Table(bits, [0, 0, 1, 1, 0])))
        self.assertEqual(parting(Table(bits, [1, 2, 0, 0, 1]), Table(bits, [0, 0, 1, 1, 0])), (0, 0, 0, 1))
        self.assertEqual(parting(Table(bits, [1, 1, 0, 0, 0]), Table(bits, [0, 0, 1, 1, 0])), (1, 1, 1, -1))


class Classes(unittest.TestCase):
    """Promise 23."""

    def test_no_table_and_one(self):
        self.assertEqual(classes([]), [])
        self.assertEqual(classes([Table(Book(2, []), [])]), [[0]])
        self.assertEqual(classes([table_named(Book(3, ROWS_OF_THREES), "x")]), [[0]])

    def test_several(self):
        bits, signs = Book(2, ROWS_OF_BITS), Book(2, ROWS_OF_SIGNS)
        xor, both, rows, columns, power = [table_named(bits, name) for name in "xnrcp"]
        nothing, never = Table(Book(2, []), []), Table(bits, [1, 2, -1, -1, 0])
        sum_of_both, sum_of_lines = Table(bits, [1, 2, 0, 0, 0]), Table(bits, [0, 0, 1, 1, 0])
        self.assertEqual(classes([xor, both, rows, columns]), [[0], [1], [2], [3]])
        self.assertEqual(classes([xor, xor, xor, xor]), [[0, 1, 2, 3]])
        self.assertEqual(classes([sum_of_both, xor, sum_of_lines, nothing, never]), [[0, 2], [1], [3, 4]])
        self.assertEqual(classes([never, sum_of_lines, nothing, sum_of_both]), [[0, 2], [1, 3]])
        self.assertEqual(classes([xor, rows, rows, xor]), [[0, 3], [1, 2]])
        self.assertEqual(classes([power, table_named(signs, "h"), plain(power), table_named(signs, "h")]), [[0, 2], [1, 3]])

    def test_by_pairs(self):
        for seed in range(20):
            base = 2 + seed % 2
            chance = random.Random(seed)
            rows = sparse_rows(seed, base, 3)
            tables = [Table(Book(base, rows), [chance.randint(0, 1) for _ in range(3)]) for _ in range(4)]
            found = classes(tables)
            self.assertEqual(sorted(at for several in found for at in several), [0, 1, 2, 3])
            self.assertEqual(found, sorted(sorted(several) for several in found))
            for one, other in itertools.combinations(range(4), 2):
                together = any(one in several and other in several for several in found)
                self.assertIs(together, are_alike(tables[one], tables[other]))

    def test_new_lists(self):
        xor = table_named(Book(2, ROWS_OF_BITS), "x")
        first = classes([xor, xor])
        first[0].append(7)
        first.append([])
        self.assertEqual(classes([xor, xor]), [[0, 1]])
        empty = classes([])
        empty.append(1)
        self.assertEqual(classes([]), [])


class Together(unittest.TestCase):
    """Promise 24."""

    def test_three_tables(self):
        for seed in range(60):
            base, many = 2 + seed % 2, 1 + seed % 4
            rows = sparse_rows(seed, base, many)
            chance = random.Random(seed)
            tables = [Table(Book(base, rows), [chance.randint(-1, 1) for _ in range(many)]) for _ in range(2)]
            tables.append(Table(Book(base, sparse_rows(seed % 5, base, 2)), [1, chance.randint(0, 1)]))
            one, other, third = tables
            partings = [parting(one, other), parting(other, third), parting(third, one)]
            places = [found[:3] for found in partings if found is not None]
            if not places:
                continue
            self.assertGreaterEqual(places.count(min(places)), 2)
            self.assertEqual(sum(found[3] for found in partings if found and found[:3] == min(places)), 0)


class Bases(unittest.TestCase):
    """Base check."""

    def test_two_tables(self):
        two = [Table(Book(2, []), []), table_named(Book(2, ROWS_OF_BITS), "x")]
        three = [Table(Book(3, []), []), table_named(Book(3, ROWS_OF_THREES), "x")]
        for one, other in itertools.product(two, three):
            for call in [parting, are_alike]:
                assert_error(self, UnlikeBases, (2, 3), call, one, other)
                assert_error(self, UnlikeBases, (3, 2), call, other, one)
                assert_error(self, UnlikeBases, (3, 2), call, other_table=one, table=other)

    def test_classes(self):
        two, three = Table(Book(2, []), []), Table(Book(3, []), [])
        for tables in itertools.product([two, three], repeat=4):
            bases = [table.book.base for table in tables]
            if len(set(bases)) == 1:
                self.assertEqual(classes(list(tables)), [[0, 1, 2, 3]])
            else:
                assert_error(self, UnlikeBases, (bases[0], 5 - bases[0]), classes, list(tables))


if __name__ == "__main__":
    unittest.main()

"""Promises 25 to 27: sums of tables that are always 0, and tables as mixtures of others."""

import copy
import inspect
import itertools
import random
import unittest

from blockbooks.books import Book
from blockbooks.errors import UnlikeBases
from blockbooks.forms import plain
from blockbooks.parting import are_alike
from blockbooks.relations import mixture, relations
from blockbooks.tables import Table, table_named
from tests.helper import (
    ROWS_OF_BITS, ROWS_OF_SIGNS, ROWS_OF_THREES, assert_error, at_once, chain_rows, random_rows, random_shares,
    sparse_rows,
)
from tests.slow import entries_below, minus, tidied


def shares_of_one_book(seed, many, tables):
    """Return shares of several tables among which there are often sums that are always 0."""
    chance = random.Random(seed)
    basis = [[chance.randint(-5, 5) for _ in range(many)] for _ in range(chance.randint(0, 3))]
    return [
        [sum(factor * some[at] for factor, some in told) for at in range(many)]
        for told in [[(chance.randint(-6, 6), some) for some in basis] for _ in range(tables)]
    ]


def small_samples():
    """Return (base, list of (rows, shares)) of one book and of several, at most five named tables together."""
    for seed in range(40):
        base, many = 2 + seed % 2, 1 + seed // 2 % 2
        rows = sparse_rows(seed, base, many)
        yield base, [(rows, shares) for shares in shares_of_one_book(seed, many, 1 + seed % 4)]
        others = rows[::-1]
        yield base, [(rows, shares) if at % 2 else (others, shares[::-1])
                     for at, shares in enumerate(shares_of_one_book(seed, many, 4))]
        yield base, [(random_rows(seed, base, 1), [6]), (rows, random_shares(seed, many)), ([], []), (rows, [0] * many)]


def tables_of(base, told):
    return [Table(Book(base, rows), shares) for rows, shares in told]


def slow_relations(base, told):
    """Return what `relations` must return, by entries of all places and numbers behind them."""
    levels = sum(len(rows) for rows, _ in told) or 1
    entries = [entries_below(base, rows, shares, min(levels, 4)) for rows, shares in told]
    units = [[int(at == other) for other in range(len(told))] for at in range(len(told))]
    width = len(entries[0])
    return [row[width:] for row in tidied([a + b for a, b in zip(entries, units)]) if not any(row[:width])]


def summed(tables, numbers):
    """Return the sum of multiples of tables of one book."""
    book = tables[0].book
    shares = [sum(number * table.shares[at] for number, table in zip(numbers, tables)) for at in range(len(book.names))]
    return Table(book, shares)


def check_form(test, lists, many):
    """Check the form in which the interface tells the lists of `relations`."""
    firsts = []
    for told in lists:
        test.assertIs(type(told), list)
        test.assertEqual([type(number) for number in told], [int] * many)
        firsts.append(next(at for at, number in enumerate(told) if number))
        test.assertGreater(told[firsts[-1]], 0)
    test.assertEqual(firsts, sorted(set(firsts)))
    for at, first in enumerate(firsts):
        for above in lists[:at]:
            test.assertIn(above[first], range(lists[at][first]))
    return firsts


class Relations(unittest.TestCase):
    """Promise 25."""

    def test_interface(self):
        for call, names in [(relations, ["tables"]), (mixture, ["wanted", "tables"])]:
            self.assertEqual(call.__module__, "blockbooks.relations")
            self.assertEqual(list(inspect.signature(call).parameters), names)

    def test_the_example(self):
        xor, both, rows, columns = [table_named(Book(2, ROWS_OF_BITS), name) for name in "xnrc"]
        found = [relations([xor, both, rows, columns]), mixture(rows, [xor, both, columns]), mixture(xor, [both]),
                 mixture(xor, [xor, xor])]
        self.assertEqual(found, [[[1, 2, -1, -1]], [1, 2, -1], None, [0, 1]])

    def test_no_table_and_tables_that_are_always_0(self):
        nothing, never = Table(Book(2, []), []), Table(Book(2, ROWS_OF_BITS), [1, 2, -1, -1, 0])
        self.assertEqual(relations([]), [])
        self.assertEqual(relations([nothing]), [[1]])
        self.assertEqual(relations([never]), [[1]])
        self.assertEqual(relations([never, nothing]), [[1, 0], [0, 1]])
        self.assertEqual(relations([table_named(Book(2, ROWS_OF_BITS), "p")]), [])
        self.assertEqual(relations([table_named(Book(2, ROWS_OF_BITS), "p"), never]), [[0, 1]])
        self.assertEqual(relations([Table(Book(3, []), [])] * 4), [[int(k == at) for k in range(4)] for at in range(4)])

    def test_multiples_of_one_table(self):
        for book in [Book(2, ROWS_OF_BITS), Book(2, ROWS_OF_SIGNS), Book(3, ROWS_OF_THREES)]:
            one = [1] * len(book.names)
            for factors, wanted in [
                ([2, 3], [[3, -2]]), ([6, 4], [[2, -3]]), ([1, 1], [[1, -1]]), ([1, -1], [[1, 1]]), ([5, 0], [[0, 1]]),
                ([0, 5], [[1, 0]]), ([6, 10, 15], [[5, 0, -2], [0, 3, -2]]), ([4, 6], [[3, -2]]), ([-99, 98], [[98, 99]]),
                ([1, 2, 3], [[1, 1, -1], [0, 3, -2]]), ([1, 1, 1, 1], [[1, 0, 0, -1], [0, 1, 0, -1], [0, 0, 1, -1]]),
            ]:
                tables = [Table(book, [factor * share for share in one]) for factor in factors]
                self.assertEqual(relations(tables), wanted)

    def test_by_place_and_place(self):
        for base, told in small_samples():
            self.assertEqual(relations(tables_of(base, told)), slow_relations(base, told))

    def test_form_and_zero_sums(self):
        for seed in range(30):
            base, many = 2 + seed % 2, 3 + seed % 4
            book = Book(base, random_rows(seed, base, many) if seed % 3 else sparse_rows(seed, base, many))
            tables = [Table(book, shares) for shares in shares_of_one_book(seed, many, 1 + seed % 4)]
            found = relations(tables)
            check_form(self, found, len(tables))
            for told in found:
                self.assertTrue(are_alike(summed(tables, told), Table(book, [0] * many)))

    def test_all_zero_sums_are_told(self):
        for seed in range(12):
            base, many = 2 + seed % 2, 3
            book = Book(base, sparse_rows(seed, base, many))
            tables = [Table(book, shares) for shares in shares_of_one_book(seed, many, 3)]
            found = relations(tables)
            firsts = check_form(self, found, 3)
            for numbers in itertools.product(range(-3, 4), repeat=3):
                rest = list(numbers)
                for told, first in zip(found, firsts):
                    rest = minus(rest, rest[first] // told[first], told)
                never = are_alike(summed(tables, numbers), Table(book, [0] * many))
                self.assertIs(never, not any(rest))

    def test_several_books(self):
        base = 2
        rows = [ROWS_OF_BITS, ROWS_OF_BITS[::-1], ROWS_OF_SIGNS + ROWS_OF_BITS[4:], ROWS_OF_BITS[4:]]
        shares = [[0, 0, 0, 0, 6], [10, 0, 0, 0, 0], [0, 0, 0, 0, 15], [7]]
        found = relations([Table(Book(base, some), told) for some, told in zip(rows, shares)])
        self.assertEqual(found, slow_relations(base, [([("p", 1, ROWS_OF_BITS[4][2])], [n]) for n in [6, 10, 15, 7]]))
        self.assertEqual(len(found), 3)
        check_form(self, found, 4)

    def test_late_levels(self):
        # The tables go apart at level 5 and not earlier.
        spots = [(1, 0), (0, 1), (1, 1), (1, 0), (0, 0)]
        books = [Book(3, chain_rows(3, spots, [1] * 5, start)) for start in [4, 6, 9]]
        tables = [table_named(book, "a") for book in books] + [Table(books[0], [0, 1, 0, 0, 0, 0])]
        with at_once():
            self.assertEqual(relations(tables), [[3, 1, -2, 0], [0, 3, -2, 0]])

    def test_new_lists(self):
        tables = [Table(Book(2, []), [])] * 2
        first = relations(tables)
        first[0].append(7)
        first[1][0] = 7
        first.pop()
        self.assertEqual(relations(tables), [[1, 0], [0, 1]])
        empty = relations([])
        empty.append(1)
        self.assertEqual(relations([]), [])

    def test_by_name(self):
        xor = table_named(Book(2, ROWS_OF_BITS), "x")
        self.assertEqual(relations(tables=[xor, xor]), [[1, -1]])
        self.assertEqual(mixture(tables=[xor], wanted=xor), [1])
        self.assertEqual(mixture(xor, tables=[xor]), [1])

    def test_large_numbers_come_soon(self):
        with at_once(60):
            for seed in range(8):
                base = 2 + seed % 2
                books = [Book(base, random_rows(10 * seed + at, base, 6)) for at in range(4)]
                tables = [Table(book, random_shares(10 * seed + at, 6)) for at, book in enumerate(books)]
                self.assertEqual(relations(tables), [])
                self.assertEqual(relations(tables[:2] + [plain(tables[0])]), [[1, 0, -1]])
                one = Table(books[0], random_shares(700 + seed, 6))
                combined = [one, tables[0], Table(books[0], [99 * a - 98 * b for a, b in zip(one.shares, tables[0].shares)])]
                self.assertEqual(relations(combined), [[99, -98, -1]])


class Bitwise(unittest.TestCase):
    """Promise 26."""

    def test_the_sum_of_rows_and_columns(self):
        bits = Book(2, ROWS_OF_BITS)
        xor, both, rows, columns, power = [table_named(bits, name) for name in bits.names]
        self.assertEqual(relations([rows, columns, xor, both]), [[1, 1, -1, -2]])
        self.assertEqual(relations([both, xor, rows, columns]), [[2, 1, -1, -1]])
        self.assertEqual(relations([xor, both, rows]), [])
        self.assertEqual(relations([power, xor, both]), [])
        self.assertEqual(mixture(xor, [both, rows, columns]), [-2, 1, 1])
        self.assertEqual(mixture(Table(bits, [0, 0, 1, 1, 0]), [xor, both]), [1, 2])
        # Half the sum would be needed.
        self.assertIsNone(mixture(both, [xor, rows, columns]))
        self.assertEqual(mixture(Table(bits, [0, 2, 0, 0, 0]), [xor, rows, columns]), [-1, 1, 1])

    def test_or_of_numbers(self):
        either = [("o", 0, [[[(1, "o")], [(1, "o"), (1, "p")]], [[(1, "o"), (1, "p")], [(1, "o"), (1, "p")]]]), ROWS_OF_BITS[4]]
        bits = Book(2, ROWS_OF_BITS)
        table = table_named(Book(2, either), "o")
        self.assertEqual(mixture(table, [table_named(bits, "x"), table_named(bits, "n")]), [1, 1])
        self.assertEqual(mixture(table, [table_named(bits, name) for name in "nrc"]), [-1, 1, 1])
        self.assertEqual(relations([table] + [table_named(bits, name) for name in "xn"]), [[1, -1, -1]])


class Mixture(unittest.TestCase):
    """Promise 27."""

    def check(self, wanted, tables, found):
        """Check the numbers of a mixture by the words of the interface."""
        self.assertIs(type(found), list)
        self.assertEqual([type(number) for number in found], [int] * len(tables))
        self.assertEqual(relations([wanted] + tables)[0][0], 1)
        for told in relations(tables):
            first = next(at for at, number in enumerate(told) if number)
            self.assertIn(found[first], range(told[first]))

    def test_sums_of_tables(self):
        for seed in range(40):
            base, many = 2 + seed % 2, 1 + seed % 6
            book = Book(base, random_rows(seed, base, many) if seed % 3 else sparse_rows(seed, base, many))
            tables = [Table(book, shares) for shares in shares_of_one_book(seed, many, 1 + seed % 4)]
            chance = random.Random(seed)
            for _ in range(3):
                wanted = summed(tables, [chance.randint(-99, 99) for _ in tables])
                found = mixture(wanted, tables)
                self.check(wanted, tables, found)
                self.assertTrue(are_alike(summed(tables, found), wanted))
                self.assertEqual(mixture(plain(wanted), [plain(table) for table in tables]), found)

    def test_none_exactly_if_there_is_none(self):
        for seed in range(30):
            base, many = 2 + seed % 2, 2
            rows = sparse_rows(seed, base, many)
            tables = [Table(Book(base, rows), shares) for shares in shares_of_one_book(seed, many, 2)]
            wanted = Table(Book(base, rows), random_shares(seed, many))
            told = [(rows, table.shares) for table in [wanted] + tables]
            there_is = any(row[0] == 1 for row in slow_relations(base, told))
            self.assertIs(mixture(wanted, tables) is not None, there_is)

    def test_several_ones(self):
        parts = Book(2, ROWS_OF_SIGNS)
        multiples = {factor: Table(parts, [0, 0, factor, 0]) for factor in range(-20, 21)}
        for factors, number, wanted in [
            ([2, 3], 1, [2, -1]), ([2, 3], 0, [0, 0]), ([2, 3], 7, [2, 1]), ([1, 1], 5, [0, 5]), ([1, -1], 5, [0, -5]),
            ([4, 6], 2, [2, -1]), ([4, 6], 3, None), ([0, 5], 10, [0, 2]), ([5, 0], 10, [2, 0]), ([0, 0], 0, [0, 0]),
            ([0, 0], 1, None), ([6, 10, 15], 1, [1, 1, -1]), ([1, 2, 3], 1, [0, 2, -1]), ([-2], 6, [-3]), ([4], 6, None),
            ([1, 1, 1, 1], -3, [0, 0, 0, -3]), ([], 0, []), ([], 1, None),
        ]:
            tables = [multiples[factor] for factor in factors]
            self.assertEqual(mixture(multiples[number], tables), wanted)

    def test_tables_that_are_always_0(self):
        nothing, never = Table(Book(2, []), []), Table(Book(2, ROWS_OF_BITS), [1, 2, -1, -1, 0])
        power = table_named(Book(2, ROWS_OF_BITS), "p")
        self.assertEqual(mixture(never, [nothing, never]), [0, 0])
        self.assertEqual(mixture(nothing, []), [])
        self.assertEqual(mixture(never, []), [])
        self.assertIsNone(mixture(power, [never, nothing]))
        self.assertEqual(mixture(never, [power, never]), [0, 0])

    def test_late_levels(self):
        spots = [(1, 0), (0, 1), (1, 1), (1, 0), (0, 0)]
        books = [Book(3, chain_rows(3, spots, [1] * 5, start)) for start in [4, 6, 9]]
        four, six, nine = [table_named(book, "a") for book in books]
        with at_once():
            self.assertEqual(mixture(six, [four, nine]), [6, -2])
            self.assertEqual(mixture(four, [six, four, nine]), [0, 1, 0])
            self.assertIsNone(mixture(four, [six, nine]))
            self.assertIsNone(mixture(four, [six, six]))

    def test_the_given_lists_stay(self):
        tables = [table_named(Book(2, ROWS_OF_BITS), name) for name in "xnrc"]
        before = list(tables)
        wanted = Table(Book(2, ROWS_OF_BITS), [1, 2, 3, 4, 0])
        first = mixture(wanted, tables)
        relations(tables)
        self.assertEqual(len(tables), 4)
        self.assertTrue(all(table is other for table, other in zip(tables, before)))
        again = copy.copy(first)
        first.append(7)
        self.assertEqual(mixture(wanted, tables), again)
        self.assertEqual(wanted, Table(Book(2, ROWS_OF_BITS), [1, 2, 3, 4, 0]))

    def test_large_numbers_come_soon(self):
        with at_once(60):
            for seed in range(8):
                base = 2 + seed % 2
                book = Book(base, random_rows(seed, base, 6))
                tables = [Table(book, random_shares(10 * seed + at, 6)) for at in range(4)]
                numbers = [10 ** 30 - 1, -10 ** 30, 7, 10 ** 29 + 3]
                self.assertEqual(mixture(summed(tables, numbers), tables), numbers)


class Bases(unittest.TestCase):
    """Base check."""

    def test_relations(self):
        two, three = Table(Book(2, []), []), table_named(Book(3, ROWS_OF_THREES), "x")
        for tables in itertools.product([two, three], repeat=4):
            bases = [table.book.base for table in tables]
            if len(set(bases)) > 1:
                assert_error(self, UnlikeBases, (bases[0], 5 - bases[0]), relations, list(tables))
                assert_error(self, UnlikeBases, (bases[0], 5 - bases[0]), relations, tables=list(tables))

    def test_mixture(self):
        two, three = table_named(Book(2, ROWS_OF_SIGNS), "h"), Table(Book(3, []), [])
        for wanted, *tables in itertools.product([two, three], repeat=4):
            bases = [table.book.base for table in [wanted] + tables]
            if len(set(bases)) > 1:
                assert_error(self, UnlikeBases, (bases[0], 5 - bases[0]), mixture, wanted, tables)
        # All tables have one base: the wanted one alone is unlike.
        assert_error(self, UnlikeBases, (2, 3), mixture, two, [three, three])
        assert_error(self, UnlikeBases, (3, 2), mixture, three, [two])


if __name__ == "__main__":
    unittest.main()

"""Promises 29, 60, 71, 73 and 74: what holds over the whole program."""

import itertools
import random
import unittest

from blockbooks.areas import area_sum, total_at, trace_at
from blockbooks.books import Book
from blockbooks.ends import alike_from, last_level
from blockbooks.errors import TooWide, UnlikeBases
from blockbooks.forms import nodes_of, plain, rank_of
from blockbooks.identities import identity_of, identity_parts, inverse_among, side_table
from blockbooks.joins import added, block_of, entrywise, framed, product, scaled, transposed
from blockbooks.levels import far_total, far_trace, total_rule, trace_rule
from blockbooks.parting import are_alike, classes, parting
from blockbooks.readings import read_table
from blockbooks.relations import mixture, relations
from blockbooks.rests import count_rest, first_rest, rests_of
from blockbooks.shelves import Shelf, SmallShelf
from blockbooks.tables import Table, table_named
from blockbooks.texts import show_book, show_table
from tests.helper import (
    ROWS_OF_BITS, ROWS_OF_SIGNS, ROWS_OF_THREES, assert_error, at_once, chain_rows, nothing, random_rows, random_shares,
    ring_rows, sparse_rows, spots_far, zero_blocks,
)


def questions(base):
    """Return functions that ask a table something; each may be asked of any table of rank at most two."""
    last = base ** 100 - 1
    return [
        lambda table: total_at(table, 100), lambda table: total_at(table, 3), lambda table: trace_at(table, 77),
        lambda table: trace_at(table, 0), lambda table: area_sum(table, 100, (5, 7), (last // 2, last - 3)),
        lambda table: area_sum(table, 2, (0, 1), (2, 2)), lambda table: area_sum(table, 100, (0, 0), (last, last)),
        lambda table: area_sum(table, 60, (1, 1), (base ** 59, base ** 59 + 4)),
        lambda table: table.entry(100, last, last // 3), lambda table: table.written(2), plain, nodes_of, rank_of, last_level,
        lambda table: alike_from(table, nothing(base)), lambda table: parting(table, identity_of(base)),
        lambda table: are_alike(table, plain(table)), lambda table: classes([table, nothing(base), table]),
        lambda table: relations([table, plain(table)]), lambda table: mixture(table, [scaled(table, 2), scaled(table, 3)]),
        lambda table: inverse_among(table, [identity_of(base)]), lambda table: added(table, identity_of(base)),
        lambda table: product(table, table), lambda table: entrywise(table, table), transposed,
        lambda table: block_of(table, 1, 0), lambda table: framed(3, [[table] * base] * base),
        lambda table: rests_of(table, 4), lambda table: first_rest(table, 3, 2), lambda table: count_rest(table, 2, 1, 40),
        total_rule, trace_rule, lambda table: far_total(table, 10 ** 30, 10 ** 12), lambda table: far_trace(table, 10 ** 9, 97),
        show_table, lambda table: show_book(table.book), lambda table: table.shares,
        lambda table: [identity_parts(table.book, [(1, [name, name + "'"])], [(2, [])]) for name in table.book.names],
        lambda table: [side_table(table.book, [(3, [name])]) for name in table.book.names],
    ]


def samples():
    """Return (base, rows, shares), such that each named table has rank at most two."""
    found = [(2, ROWS_OF_BITS, [1, 0, 0, 0, 2]), (2, ROWS_OF_SIGNS, [0, 0, 1, 2]), (3, ROWS_OF_THREES, [1, 0, 0, -1, 0, 0]),
             (2, [], []), (3, [], []), (2, ROWS_OF_BITS, [1, 2, -1, -1, 0])]
    for seed in range(4):
        base = 2 + seed % 2
        found.append((base, random_rows(seed, base, 2), random_shares(seed, 2)))
        found.append((base, sparse_rows(seed, base, 2), random_shares(seed, 2)))
    return found


class ByTurns(unittest.TestCase):
    """Promise 60."""

    def test_each_answer_is_that_of_a_table_made_anew(self):
        with at_once(120):
            for seed, (base, rows, shares) in enumerate(samples()):
                chance = random.Random(seed)
                book = Book(base, rows)
                tables = [Table(book, shares), Table(book, shares[::-1])]
                if rank_of(tables[1]) > 2:
                    tables[1] = Table(book, [-share for share in shares])
                asked = [(question, table) for question in questions(base) for table in tables]
                chance.shuffle(asked)
                for question, table in asked + asked[:20]:
                    anew = Table(Book(base, rows), table.shares)
                    self.assertEqual(question(table), question(anew))
                self.assertEqual(book, Book(base, rows))
                self.assertEqual(tables[0].shares, shares)

    def test_returned_lists_may_be_changed(self):
        for base, rows, shares in samples():
            table = Table(Book(base, rows), shares)
            for question in [lambda: table.shares, lambda: table.book.names, lambda: table.written(1), lambda: nodes_of(table),
                             lambda: total_rule(table), lambda: trace_rule(table), lambda: rests_of(table, 3),
                             lambda: classes([table, table]), lambda: relations([table, table]), lambda: mixture(table, [table]),
                             lambda: [table.book.blocks_of(name) for name in table.book.names]]:
                before, told = question(), question()
                self.spoil(told)
                self.assertEqual(question(), before)
                self.assertEqual(total_at(table, 4), total_at(Table(Book(base, rows), shares), 4))

    def spoil(self, told):
        for item in told:
            if isinstance(item, list):
                self.spoil(item)
        told.append(77)
        told[0] = 99


class Bases(unittest.TestCase):
    """Promise 29."""

    def test_base_check(self):
        tables = [identity_of(2), identity_of(3)]
        for several in [list(some) for many in (2, 3, 4) for some in itertools.product(tables, repeat=many)]:
            bases = [table.book.base for table in several]
            calls = [(classes, (several,)), (relations, (several,)), (mixture, (several[0], several[1:])),
                     (inverse_among, (several[0], several[1:]))]
            if len(several) == 2:
                calls += [(call, tuple(several)) for call in (parting, are_alike, alike_from, added, product, entrywise)]
            for call, told in calls:
                if len(set(bases)) > 1:
                    assert_error(self, UnlikeBases, (bases[0], 5 - bases[0]), call, *told)
                else:
                    call(*told)

    def test_lists_without_tables(self):
        self.assertEqual((classes([]), relations([])), ([], []))
        for base in (2, 3):
            self.assertIsNone(mixture(identity_of(base), []))
            self.assertIsNone(inverse_among(identity_of(base), []))
            self.assertEqual(mixture(nothing(base), []), [])


def rewritten(base, rows, shares, seed):
    """Return the same table by another book: other names, another sequence, a sum for the first named table."""
    chance = random.Random(seed)
    names = [name for name, _, _ in rows]
    letters = dict(zip(names, chance.sample("abcdefghijklmnop", len(names))))
    first, last = names[0], names[-1]

    def block(terms):
        """Put the sum of y and the last named table for the first one."""
        found = []
        for number, name in terms:
            found += [(number, "y"), (number, letters[last])] if name == first else [(number, letters[name])]
        return found[::-1]

    def grid(blocks):
        return [[block(terms) for terms in line] for line in blocks]

    told = [(letters[name], start, grid(blocks)) for name, start, blocks in rows[1:]]
    _, start, blocks = rows[0]
    _, last_start, last_blocks = rows[-1]
    less = [[terms + [(-n, name) for n, name in others] for terms, others in zip(line, other_line)]
            for line, other_line in zip(blocks, last_blocks)]
    told.append(("y", start - last_start, grid(less)))
    told.append(("z", 5, [[[(3, "z"), (1, "y")] for _ in range(base)] for _ in range(base)]))
    numbers = dict(zip([letters[name] for name in names[1:]], shares[1:]))
    numbers[letters[last]] += shares[0]
    numbers.update(y=shares[0], z=0)
    chance.shuffle(told)
    return Table(Book(base, told), [numbers[name] for name, _, _ in told])


class WrittenOtherwise(unittest.TestCase):
    """Promise 71."""

    def test_the_same_answers(self):
        sets = [(2, ROWS_OF_BITS, [1, -2, 3, 0, 4]), (2, ROWS_OF_SIGNS, [1, 0, -2, 3]), (3, ROWS_OF_THREES[:4], [1, 0, 2, 3])]
        for seed in range(10):
            base, many = 2 + seed % 2, 2 + seed % 3
            sets.append((base, random_rows(seed, base, many), random_shares(seed, many)))
            sets.append((base, sparse_rows(seed, base, many), random_shares(seed, many)))
        with at_once(60):
            for seed, (base, rows, shares) in enumerate(sets):
                table, other = Table(Book(base, rows), shares), rewritten(base, rows, shares, seed)
                self.assertEqual(plain(other), plain(table))
                self.assertEqual((last_level(other), alike_from(other, table)), (last_level(table), 0))
                self.assertEqual((total_rule(other), trace_rule(other)), (total_rule(table), trace_rule(table)))
                for row, column in spots_far(seed, base, 100):
                    self.assertEqual(other.entry(100, row, column), table.entry(100, row, column))
                last = base ** 99 - 1
                corners = (last // 5, last // 7), (last // 2, last - 9)
                self.assertEqual(area_sum(other, 99, *corners), area_sum(table, 99, *corners))
                for call in (total_at, trace_at):
                    self.assertEqual([call(other, level) for level in (0, 1, 5, 100)], [call(table, level) for level in (0, 1, 5, 100)])
                for call in (far_total, far_trace):
                    self.assertEqual(call(other, 10 ** 30, 10 ** 12 - 1), call(table, 10 ** 30, 10 ** 12 - 1))
                self.assertEqual(rests_of(other, 3), rests_of(table, 3))
                for rest in range(3):
                    self.assertEqual(first_rest(other, 3, rest), first_rest(table, 3, rest))
                    self.assertEqual(count_rest(other, 3, rest, 50), count_rest(table, 3, rest, 50))


class GoTogether(unittest.TestCase):
    """Promise 73."""

    def test_blocks_frames_products_sums_and_turned_tables(self):
        for seed in range(8):
            base = 2 + seed % 2
            one = Table(Book(base, random_rows(seed, base, 2)), random_shares(seed, 2))
            other = Table(Book(base, sparse_rows(seed, base, 2)), random_shares(seed, 2))
            grid = [[block_of(one, i, j) for j in range(base)] for i in range(base)]
            turned_grid = [[transposed(grid[j][i]) for j in range(base)] for i in range(base)]
            start = one.entry(0, 0, 0)
            self.assertEqual(framed(start, grid), plain(one))
            self.assertEqual(framed(start, turned_grid), transposed(one))
            self.assertEqual(block_of(transposed(one), 1, 0), transposed(block_of(one, 0, 1)))
            self.assertEqual(added(transposed(one), transposed(other)), transposed(added(one, other)))
            self.assertEqual(block_of(added(one, other), 0, 1), added(grid[0][1], block_of(other, 0, 1)))
            first = added(product(grid[0][0], block_of(other, 0, 0)), product(grid[0][1], block_of(other, 1, 0)))
            if base == 3:
                first = added(first, product(grid[0][2], block_of(other, 2, 0)))
            self.assertEqual(block_of(product(one, other), 0, 0), first)
            for form in [plain(one), transposed(other), framed(7, grid)]:
                if len(show_table(form)) <= 4000:
                    self.assertEqual(read_table(show_table(form)), form)


class GreatRank(unittest.TestCase):
    """Promise 74."""

    def test_rings_and_chains(self):
        with at_once(120):
            for base in (2, 3):
                for many in range(2, 7):
                    spot = (0, base - 1)
                    ring = table_named(Book(base, ring_rows(base, many, spot)), "a")
                    chain = table_named(Book(base, chain_rows(base, [spot] * (many - 1), [1] * (many - 1), 1)), "a")
                    self.check(base, many, ring, chain)

    def check(self, base, many, ring, chain):
        places = [(level, 0, base ** level - 1) for level in range(2 * many)]
        self.assertEqual(nodes_of(ring), places[:many])
        self.assertEqual(nodes_of(chain), places[:many])
        self.assertEqual((last_level(ring), last_level(chain)), (None, many - 1))
        # The ring is 1 at levels 0, many, and so on; the chain at its last level alone.
        difference = added(ring, scaled(chain, -1))
        self.assertEqual(parting(ring, chain), (0, 0, 0, 1))
        self.assertEqual([difference.entry(*place) for place in places],
                         [int(level % many == 0) - int(level == many - 1) for level in range(2 * many)])
        self.assertEqual(rank_of(difference), 2 * many)
        self.assertIsNone(alike_from(difference, chain))
        self.assertEqual(alike_from(difference, ring), many)
        self.assertEqual(alike_from(added(difference, chain), ring), 0)
        self.assertEqual(relations([difference, ring, chain]), [[1, -1, 1]])
        self.assertEqual(relations([ring, chain]), [])
        self.assertEqual(mixture(difference, [chain, ring]), [-1, 1])
        self.assertIsNone(mixture(ring, [chain, scaled(difference, 2)]))
        for table, rank in [(ring, many), (chain, many), (difference, 2 * many)]:
            shelf = SmallShelf(base, rank - 1)
            assert_error(self, TooWide, rank, shelf.put, "a", table)
            self.assertEqual((shelf.titles, shelf.story()), ([], []))
            wide = SmallShelf(base, rank)
            wide.put("a", table)
            self.assertEqual(wide.alike_on(plain(table)), ["a"])
        self.assertEqual((total_rule(ring), trace_rule(ring)), ([0] * (many - 1) + [1], [0]))
        self.assertEqual(total_rule(chain), [0] * many)
        self.assertEqual(first_rest(chain, 2, 1), places[many - 1])

    def test_rings_of_two_books(self):
        with at_once(60):
            for base in (2, 3):
                for many, others in itertools.combinations(range(2, 7), 2):
                    one, other = [table_named(Book(base, ring_rows(base, some, (1, 1))), "a") for some in (many, others)]
                    difference = added(one, scaled(other, -1))
                    place = parting(one, other)
                    self.assertEqual(place[0], many)
                    self.assertEqual(parting(difference, nothing(base)), place)
                    self.assertEqual(relations([difference, other, one]), [[1, 1, -1]])
                    self.assertEqual(mixture(one, [other, difference]), [1, 1])
                    self.assertEqual((last_level(difference), alike_from(one, other)), (None, None))

    def test_the_table_of_a_book_without_named_tables(self):
        for base in (2, 3):
            table, last = nothing(base), base ** 100 - 1
            self.assertEqual(table.entry(100, last, 0), 0)
            self.assertEqual(table.written(2), [[0] * base ** 2] * base ** 2)
            self.assertEqual([total_at(table, 100), trace_at(table, 100), area_sum(table, 100, (1, 2), (last, last))], [0] * 3)
            self.assertEqual((plain(table), rank_of(table), nodes_of(table), last_level(table)), (table, 0, [], -1))
            self.assertEqual((total_rule(table), trace_rule(table)), ([], []))
            self.assertEqual((far_total(table, 10 ** 30, 9), far_trace(table, 10 ** 30, 9)), (0, 0))
            self.assertEqual((rests_of(table, 5), first_rest(table, 5, 0), first_rest(table, 5, 1)), ([0], (0, 0, 0), None))
            self.assertEqual(count_rest(table, 5, 0, 100), base ** 200)
            for found in [added(table, table), scaled(table, 10 ** 20), product(table, table), entrywise(table, table),
                          transposed(table), block_of(table, 1, 1), framed(0, [[table] * base] * base), side_table(table.book, [])]:
                self.assertEqual(found, table)
            self.assertEqual(framed(2, [[table] * base] * base), Table(Book(base, [("a", 2, zero_blocks(base))]), [1]))
            self.assertEqual((parting(table, table), are_alike(table, table), alike_from(table, table)), (None, True, 0))
            self.assertEqual((classes([table] * 3), relations([table]), mixture(table, [table])), ([[0, 1, 2]], [[1]], [0]))
            self.assertIsNone(inverse_among(table, [table]))
            self.assertIsNone(identity_parts(table.book, [], []))
            shelf = Shelf(base)
            shelf.put("a", table)
            self.assertEqual(shelf.alike_on(table), ["a"])
            self.assertIsNone(SmallShelf(base, 0).put("a", table))
            self.assertEqual(read_table(show_table(table)), table)


if __name__ == "__main__":
    unittest.main()

"""Promises 15 to 19 and 28: nodes and plain tables."""

import inspect
import random
import string
import unittest

from blockbooks.areas import area_sum, total_at, trace_at
from blockbooks.books import Book
from blockbooks.forms import nodes_of, plain, rank_of
from blockbooks.parting import are_alike
from blockbooks.tables import Table, table_named
from tests.helper import (
    ROWS_OF_BITS, ROWS_OF_SIGNS, ROWS_OF_THREES, at_once, chain_rows, place_of, random_rows, random_shares, sparse_rows,
    zero_blocks,
)
from tests.slow import entries_below, entries_of_table, plain_entries


def small_samples():
    """Return (base, rows, shares) with at most three named tables, of all sorts."""
    found = [
        (2, [], []), (3, [], []), (2, ROWS_OF_BITS[4:], [0]), (2, ROWS_OF_BITS[4:], [-6]), (2, ROWS_OF_SIGNS[:3], [2, 4, 6]),
        (3, [ROWS_OF_THREES[0], ROWS_OF_THREES[3]], [6, 4]), (3, ROWS_OF_THREES[4:], [1, 1]),
    ]
    for seed in range(30):
        base, many = 2 + seed % 2, 1 + seed // 2 % 3
        for rows in [random_rows(seed, base, many), sparse_rows(seed, base, many)]:
            found.append((base, rows, random_shares(seed, many)))
            found.append((base, rows, [random.Random(seed).choice([0, 1, 12])] + [0] * (many - 1)))
    return found


def large_samples():
    """Return tables of books of up to six named tables."""
    found = [Table(Book(2, ROWS_OF_BITS), [1, 2, 3, 4, 5]), Table(Book(3, ROWS_OF_THREES), [1, -2, 3, 0, 1, 9])]
    for seed in range(24):
        base, many = 2 + seed % 2, 4 + seed // 2 % 3
        for rows in [random_rows(seed, base, many), sparse_rows(seed, base, many)]:
            found.append(Table(Book(base, rows), random_shares(seed, many)))
    return found


def check_form(test, table):
    """Check all that the form of a plain table must be."""
    book = table.book
    test.assertIs(type(table), Table)
    test.assertIs(type(book), Book)
    test.assertEqual(book.names, list(string.ascii_lowercase[:len(book.names)]))
    test.assertEqual({type(share) for share in table.shares} - {int}, set())
    for name in book.names:
        test.assertIs(type(book.start_of(name)), int)
        for block in [block for line in book.blocks_of(name) for block in line]:
            test.assertEqual([other for _, other in block], sorted({other for _, other in block}))
            test.assertNotIn(0, [coefficient for coefficient, _ in block])


class Form(unittest.TestCase):
    """Promise 15."""

    def test_interface(self):
        for call in [plain, rank_of, nodes_of]:
            self.assertEqual(call.__module__, "blockbooks.forms")
            self.assertEqual(list(inspect.signature(call).parameters), ["table"])

    def test_the_example(self):
        xor = table_named(Book(2, ROWS_OF_BITS), "x")
        found = [nodes_of(xor), rank_of(xor), plain(xor).shares, plain(xor).book.blocks_of("b")]
        self.assertEqual(found, [
            [(0, 0, 0), (1, 0, 1)], 2, [0, 1], [[[(1, "b")], [(1, "a"), (3, "b")]], [[(1, "a"), (3, "b")], [(1, "b")]]],
        ])

    def test_plain_books_by_hand(self):
        # The power p is 2 where r is first not 0, so p less twice r stands in the place of p.
        rows = table_named(Book(2, ROWS_OF_BITS), "r")
        self.assertEqual(plain(rows), Table(Book(2, [
            ("a", 1, [[[(2, "a"), (2, "b")], [(2, "a"), (2, "b")]], [[(-2, "b")], [(-2, "b")]]]),
            ("b", 0, [[[(1, "b")], [(1, "b")]], [[(1, "a"), (3, "b")], [(1, "a"), (3, "b")]]]),
        ]), [0, 1]))
        power = Table(Book(2, ROWS_OF_BITS), [0, 0, 0, 0, -6])
        self.assertEqual(plain(power), Table(Book(2, [("a", 6, [[[(2, "a")]] * 2] * 2)]), [-1]))
        parts = table_named(Book(2, ROWS_OF_SIGNS), "s")
        self.assertEqual(plain(parts), Table(Book(2, [("a", 1, [[[(1, "a")], []], [[(1, "a")], [(1, "a")]]])]), [1]))
        # Here a is twice m less d, and b is d less m.
        both = Table(Book(2, ROWS_OF_SIGNS), [0, 1, 0, 1])
        self.assertEqual(plain(both), Table(Book(2, [
            ("a", 1, [[[(-2, "b")], []], [[(-2, "a"), (-2, "b")], [(-2, "b")]]]),
            ("b", 0, [[[(1, "a"), (3, "b")], []], [[(1, "a"), (1, "b")], [(1, "a"), (3, "b")]]]),
        ]), [2, 3]))

    def test_shares_of_multiples(self):
        # Kin are integer multiples: of three times a table only multiples of three.
        for factor in [1, 2, 3, -1, -5, 99]:
            found = plain(Table(Book(2, ROWS_OF_SIGNS), [0, 0, factor, 0]))
            self.assertEqual(found.shares, [1 if factor > 0 else -1])
            self.assertEqual(found.book.start_of("a"), abs(factor))
            self.assertEqual(found.book.blocks_of("a"), [[[(1, "a")], []], [[(1, "a")], [(1, "a")]]])

    def test_by_place_and_place(self):
        for base, rows, shares in small_samples():
            levels = max(len(rows), 1)
            table = Table(Book(base, rows), shares)
            nodes, wanted = plain_entries(base, rows, shares, levels) if rows else ([], [])
            found = plain(table)
            check_form(self, found)
            self.assertEqual(found.book.base, base)
            self.assertEqual(nodes_of(table), nodes)
            self.assertEqual(rank_of(table), len(nodes))
            self.assertEqual(len(found.book.names), len(nodes))
            named = [entries_of_table(table_named(found.book, name), levels) for name in found.book.names]
            self.assertEqual(named, wanted)
            self.assertEqual(entries_of_table(found, levels + 1), entries_below(base, rows, shares, levels + 1))

    def test_each_block_of_a_plain_table(self):
        # What stands in the blocks is right exactly if the named tables stay kin one level further.
        for base, rows, shares in small_samples()[7::3]:
            found = plain(Table(Book(base, rows), shares))
            _, wanted = plain_entries(base, rows, shares, len(rows) + 1)
            named = [entries_of_table(table_named(found.book, name), len(rows) + 1) for name in found.book.names]
            self.assertEqual(named, wanted)

    def test_tables_that_are_always_0(self):
        few = Book(2, [("u", 0, [[[(1, "u")], [(2, "v")]], [[], []]]), ("v", 0, [[[(1, "u")], []], [[], [(5, "v")]]])])
        equals = Book(3, [("a", 2, [[[(1, "a")]] * 3] * 3), ("b", 1, [[[(1, "b")]] * 3] * 3)])
        for table in [Table(Book(2, []), []), Table(Book(3, []), []), Table(Book(2, ROWS_OF_BITS), [0] * 5),
                      Table(Book(2, ROWS_OF_BITS), [1, 2, -1, -1, 0]), Table(few, [7, -9]), Table(equals, [3, -6])]:
            found = plain(table)
            self.assertEqual(found, Table(Book(table.book.base, []), []))
            self.assertEqual((rank_of(table), nodes_of(table)), (0, []))

    def test_the_given_table_stays(self):
        for table in large_samples()[:8]:
            book, shares, rows = table.book, table.shares, table.written(2)
            same = Book(book.base, [(name, book.start_of(name), book.blocks_of(name)) for name in book.names])
            plain(table), rank_of(table), nodes_of(table)
            self.assertEqual((table.book, table.shares, table.written(2)), (same, shares, rows))
            self.assertEqual(table, Table(same, shares))

    def test_by_name(self):
        table = Table(Book(2, ROWS_OF_BITS), [1, 2, 3, 4, 5])
        self.assertEqual(plain(table=table), plain(table))
        self.assertEqual(rank_of(table=table), rank_of(table))
        self.assertEqual(nodes_of(table=table), nodes_of(table))


class OnlyOne(unittest.TestCase):
    """Promise 16."""

    def test_plain_of_plain(self):
        for table in large_samples():
            found = plain(table)
            self.assertEqual(plain(found), found)
            self.assertEqual(nodes_of(found), nodes_of(table))
        for base, rows, shares in small_samples():
            found = plain(Table(Book(base, rows), shares))
            self.assertEqual(plain(found), found)

    def rewritten(self, base, rows, shares, seed):
        """Return other writings of a table: other names and sequences, spare tables, sums for named tables."""
        chance = random.Random(seed)
        letters = dict(zip([name for name, _, _ in rows], chance.sample(string.ascii_lowercase[:13], len(rows))))
        renamed = [(letters[name], start, self.put(blocks, lambda block: [(c, letters[n]) for c, n in block]))
                   for name, start, blocks in rows]
        order = chance.sample(range(len(rows)), len(rows))
        yield Table(Book(base, renamed), shares)
        yield Table(Book(base, [rows[at] for at in order]), [shares[at] for at in order])
        yield Table(Book(base, [renamed[at] for at in order]), [shares[at] for at in order])
        spare = [("y", 7, self.put(zero_blocks(base), lambda block: [(3, "y"), (1, "z")])),
                 ("z", -2, self.put(zero_blocks(base), lambda block: [(1, letters[rows[0][0]])]))]
        yield Table(Book(base, spare[:1] + renamed + spare[1:]), [0] + shares + [0])
        untidy = [(name, start, self.put(blocks, lambda block: [(2, n) for _, n in block] + [(0, rows[0][0])] +
                                         [(c - 2, n) for c, n in block][::-1])) for name, start, blocks in rows]
        yield Table(Book(base, untidy), shares)
        yield self.first_as_a_sum(base, renamed, shares)

    def first_as_a_sum(self, base, rows, shares):
        """Return the table with w and the last named table in the place of the first one, which is their sum."""
        (first, start, blocks), (last, last_start, last_blocks) = rows[0], rows[-1]

        def put(block):
            return [term for c, n in block for term in ([(c, "w"), (c, last)] if n == first else [(c, n)])]

        less = [[line[j] + [(-c, n) for c, n in last_line[j]] for j in range(base)]
                for line, last_line in zip(blocks, last_blocks)]
        written = [("w", start - last_start, self.put(less, put))]
        written += [(name, other, self.put(some, put)) for name, other, some in rows[1:]]
        return Table(Book(base, written), [shares[0]] + shares[1:-1] + [shares[-1] + shares[0]])

    def put(self, blocks, change):
        return [[change(block) for block in line] for line in blocks]

    def test_all_writings_have_the_same_plain_table(self):
        sets = [(2, ROWS_OF_BITS, [1, -2, 3, 0, 4]), (2, ROWS_OF_SIGNS, [1, 0, -2, 3]), (3, ROWS_OF_THREES, [1, 0, 2, 0, 0, 3])]
        for seed in range(20):
            base, many = 2 + seed % 2, 2 + seed % 4
            sets.append((base, random_rows(seed, base, many), random_shares(seed, many)))
            sets.append((base, sparse_rows(seed, base, many), random_shares(seed, many)))
        for seed, (base, rows, shares) in enumerate(sets):
            wanted = plain(Table(Book(base, rows), shares))
            for other in self.rewritten(base, rows, shares, seed):
                self.assertEqual(plain(other), wanted)
                self.assertTrue(are_alike(other, Table(Book(base, rows), shares)))

    def test_sums_in_the_place_of_named_tables(self):
        bits = Book(2, ROWS_OF_BITS)
        self.assertEqual(plain(Table(bits, [1, 2, 0, 0, 0])), plain(Table(bits, [0, 0, 1, 1, 0])))
        self.assertEqual(plain(Table(bits, [1, 0, 0, 0, 3])), plain(Table(bits, [0, -2, 1, 1, 3])))

    def test_tables_that_are_not_alike(self):
        tables = large_samples()[:20] + [Table(Book(base, []), []) for base in (2, 3)]
        bits = Book(2, ROWS_OF_BITS)
        tables += [table_named(bits, name) for name in bits.names] + [Table(bits, [2, 0, 0, 0, 0])]
        forms = [plain(table) for table in tables]
        for at, form in enumerate(forms):
            for other in forms[:at]:
                self.assertNotEqual(form, other)

    def test_multiples_and_negatives_are_not_equal(self):
        table = Table(Book(2, ROWS_OF_BITS), [1, 2, 3, 4, 5])
        for factor in [-1, 2, 0]:
            self.assertNotEqual(plain(table), plain(Table(table.book, [factor * share for share in table.shares])))


class Nodes(unittest.TestCase):
    """Promise 17."""

    def test_ascending_and_as_many_as_rank_of_tells(self):
        for table in large_samples():
            nodes = nodes_of(table)
            self.assertIs(type(nodes), list)
            self.assertEqual(nodes, sorted(set(nodes)))
            self.assertEqual(rank_of(table), len(nodes))
            self.assertIs(type(rank_of(table)), int)
            self.assertLessEqual(len(nodes), len(table.book.names))
            for node in nodes:
                self.assertIs(type(node), tuple)
                self.assertEqual([type(number) for number in node], [int] * 3)
                self.assertLess(node[0], len(nodes))

    def test_a_new_list(self):
        table = Table(Book(2, ROWS_OF_BITS), [1, 2, 3, 4, 5])
        wanted = list(nodes_of(table))
        first = nodes_of(table)
        first.clear()
        self.assertIsNot(nodes_of(table), nodes_of(table))
        self.assertEqual(nodes_of(table), wanted)

    def test_nodes_of_well_known_tables(self):
        bits, signs, threes = Book(2, ROWS_OF_BITS), Book(2, ROWS_OF_SIGNS), Book(3, ROWS_OF_THREES)
        for book, name, wanted in [
            (bits, "x", [(0, 0, 0), (1, 0, 1)]), (bits, "n", [(0, 0, 0), (1, 1, 1)]), (bits, "r", [(0, 0, 0), (1, 1, 0)]),
            (bits, "c", [(0, 0, 0), (1, 0, 1)]), (bits, "p", [(0, 0, 0)]), (signs, "h", [(0, 0, 0)]),
            (threes, "r", [(0, 0, 0), (1, 1, 0)]), (threes, "c", [(0, 0, 0), (1, 0, 1)]), (threes, "s", [(0, 0, 0)]),
        ]:
            self.assertEqual(nodes_of(table_named(book, name)), wanted)
        # The blocks of such a sum are itself and multiples of the power, nothing else.
        self.assertEqual(nodes_of(Table(bits, [1, 0, 2, 4, 0])), [(0, 0, 0), (1, 0, 1)])

    def test_places_are_ordered_by_rows_and_not_by_blocks(self):
        # At level 2 the place (0, 3) lies in a later block than (1, 0), but comes before it.
        rows = [("u", 0, [[[(1, "v")], [(1, "w")]], [[], []]]), ("v", 0, [[[], []], [[(1, "o")], []]]),
                ("w", 0, [[[], [(1, "o")]], [[], []]]), ("o", 1, zero_blocks(2))]
        table = table_named(Book(2, rows), "u")
        self.assertEqual([line.index(1) for line in table.written(2)[:2]], [3, 0])
        self.assertEqual(nodes_of(table), [(0, 0, 0), (1, 0, 1), (1, 1, 0), (2, 0, 3)])


class Looks(unittest.TestCase):
    """Promise 18."""

    def test_at_the_nodes(self):
        for table in large_samples():
            form, nodes = plain(table), nodes_of(table)
            check_form(self, form)
            named = [table_named(form.book, name) for name in form.book.names]
            for at, node in enumerate(nodes):
                own = named[at].entry(*node)
                self.assertGreater(own, 0)
                for above in named[:at]:
                    self.assertIn(above.entry(*node), range(own))
                for below in named[at + 1:]:
                    self.assertEqual(below.entry(*node), 0)

    def test_0_ahead_of_its_own_node(self):
        for table in large_samples():
            form = plain(table)
            for name, node in zip(form.book.names, nodes_of(table)):
                written = table_named(form.book, name)
                for level in range(min(node[0] + 1, 5 if table.book.base == 2 else 4)):
                    for row, line in enumerate(written.written(level)):
                        for column, entry in enumerate(line):
                            if (level, row, column) < node:
                                self.assertEqual(entry, 0)

    def test_entries_near_and_far(self):
        chance = random.Random(18)
        with at_once(60):
            for table in large_samples():
                form = plain(table)
                self.assertEqual(form.written(3), table.written(3))
                for level in [9, 40, 100]:
                    for _ in range(3):
                        last = table.book.base ** level - 1
                        row, column = chance.randint(0, last), chance.randint(0, last)
                        self.assertEqual(form.entry(level, row, column), table.entry(level, row, column))

    def test_blocks_make_the_next_level(self):
        for table in large_samples()[:12]:
            book = plain(table).book
            squares = {name: table_named(book, name).written(2) for name in book.names}
            for name in book.names:
                for i, line in enumerate(book.blocks_of(name)):
                    for j, block in enumerate(line):
                        side = book.base ** 2
                        found = [some[j * side:(j + 1) * side]
                                 for some in table_named(book, name).written(3)[i * side:(i + 1) * side]]
                        wanted = [[sum(c * squares[n][row][column] for c, n in block) for column in range(side)]
                                  for row in range(side)]
                        self.assertEqual(found, wanted)


class Sums(unittest.TestCase):
    """Promise 19."""

    def test_sums_traces_and_rectangles(self):
        chance = random.Random(19)
        with at_once(60):
            for table in large_samples()[::3]:
                form = plain(table)
                for level in [0, 1, 2, 5, 33, 100]:
                    self.assertEqual(total_at(form, level), total_at(table, level))
                    self.assertEqual(trace_at(form, level), trace_at(table, level))
                    last = table.book.base ** level - 1
                    rows = sorted(chance.randint(0, last) for _ in range(2))
                    columns = sorted(chance.randint(0, last) for _ in range(2))
                    corners = (rows[0], columns[0]), (rows[1], columns[1])
                    self.assertEqual(area_sum(form, level, *corners), area_sum(table, level, *corners))

    def test_tables_of_plain_books(self):
        for table in large_samples()[:8]:
            book = plain(table).book
            for name in book.names:
                named = table_named(book, name)
                self.assertEqual(total_at(named, 3), sum(map(sum, named.written(3))))
                self.assertTrue(are_alike(plain(named), named))


class ManyAndLate(unittest.TestCase):
    """Promise 28."""

    def chains(self):
        for base, spots in [(2, [(0, 1), (1, 1), (0, 0), (1, 0), (1, 1)]), (3, [(2, 0), (1, 2), (0, 0), (2, 2), (1, 1)]),
                            (3, [(2, 2)] * 5), (2, [(0, 0)] * 5), (2, [(1, 0)]), (3, [(0, 2), (1, 0)]), (2, [])]:
            for start, coefficient in [(1, 1), (-6, 2), (99, -9), (4, 9)]:
                yield base, spots, [coefficient] * len(spots), start

    def test_chains(self):
        with at_once():
            for base, spots, coefficients, start in self.chains():
                table = table_named(Book(base, chain_rows(base, spots, coefficients, start)), "a")
                many = len(spots) + 1
                nodes = [place_of(base, spots[many - 1 - level:]) for level in range(many)]
                worth = start
                for coefficient in coefficients:
                    worth *= coefficient
                self.assertEqual(table.entry(*nodes[-1]), worth)
                self.assertEqual(nodes_of(table), nodes)
                self.assertEqual(rank_of(table), many)
                form = plain(table)
                named = [("a", abs(worth), zero_blocks(base))]
                for name, above, (i, j) in zip(string.ascii_lowercase[1:], string.ascii_lowercase, spots[::-1]):
                    blocks = zero_blocks(base)
                    blocks[i][j] = [(1, above)]
                    named.append((name, 0, blocks))
                shares = [0] * (many - 1) + [1 if worth > 0 else -1]
                self.assertEqual(form, Table(Book(base, named), shares))

    def test_six_named_tables(self):
        for seed in range(10):
            for base in (2, 3):
                table = Table(Book(base, random_rows(100 + seed, base, 6)), random_shares(100 + seed, 6))
                self.assertEqual(rank_of(table), len(plain(table).book.names))
                self.assertEqual(plain(plain(table)), plain(table))

    def test_four_named_tables_by_place_and_place(self):
        for seed in range(4):
            for base, rows in [(2, random_rows(40 + seed, 2, 4)), (2, sparse_rows(40 + seed, 2, 4)),
                               (2, sparse_rows(50 + seed, 2, 5))]:
                shares = random_shares(seed, len(rows))
                nodes, wanted = plain_entries(base, rows, shares, len(rows))
                table = Table(Book(base, rows), shares)
                book = plain(table).book
                self.assertEqual(nodes_of(table), nodes)
                self.assertEqual([entries_of_table(table_named(book, name), len(rows)) for name in book.names], wanted)

    def test_common_factors(self):
        for factor in [2, 6, 9, -7, 99]:
            for rows, base in [(ROWS_OF_BITS, 2), (ROWS_OF_SIGNS, 2), (ROWS_OF_THREES, 3)]:
                shares = [at % 3 - 1 for at in range(len(rows))]
                one = plain(Table(Book(base, rows), shares))
                many = plain(Table(Book(base, rows), [factor * share for share in shares]))
                self.assertEqual(many.shares, [share * factor // abs(factor) for share in one.shares])
                self.assertEqual(many.book.names, one.book.names)
                for name in one.book.names:
                    self.assertEqual(many.book.start_of(name), abs(factor) * one.book.start_of(name))
                    self.assertEqual(many.book.blocks_of(name), one.book.blocks_of(name))

    def test_kin_of_kin(self):
        # At the first place the kin of a are 6 and 4, so one of them is 2: a less b.
        rows = [("a", 6, [[[], [(1, "b")]], [[], []]]), ("b", 4, zero_blocks(2))]
        table = table_named(Book(2, rows), "a")
        self.assertEqual(nodes_of(table), [(0, 0, 0), (1, 0, 1)])
        self.assertEqual(plain(table), Table(Book(2, [
            ("a", 2, [[[], [(2, "a"), (-1, "b")]], [[], []]]), ("b", 0, [[[], [(4, "a"), (-2, "b")]], [[], []]]),
        ]), [3, -1]))

    def test_far_out_numbers_come_soon(self):
        with at_once():
            for seed in range(20):
                base = 2 + seed % 2
                rows = [(name, 99 - at, [[[(9 - (at + i * j) % 3, other), (-9, name), (8, "a"), (7, "f")]
                                          for j, other in zip(range(base), "fedcba"[seed % 4:])] for i in range(base)])
                        for at, name in enumerate("abcdef")]
                table = Table(Book(base, rows), random_shares(seed, 6))
                self.assertEqual(plain(plain(table)), plain(table))


if __name__ == "__main__":
    unittest.main()

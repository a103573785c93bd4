"""Promises 43 to 46, 54 and 55: remainders, and relations beside mixtures."""

import inspect
import itertools
import random
import unittest

from blockbooks.books import Book
from blockbooks.errors import InvalidLevel, InvalidNumber, InvalidRest
from blockbooks.forms import rank_of
from blockbooks.joins import added, entrywise, scaled, transposed
from blockbooks.parting import are_alike
from blockbooks.relations import mixture, relations
from blockbooks.rests import count_rest, first_rest, rests_of
from blockbooks.tables import Table, table_named
from tests.helper import (
    assert_error, at_once, blocks_of_table, book_of, chain_rows, nothing, place_of, random_rows, random_shares, random_table,
    ring_rows, sparse_rows, spot_table,
)


def samples():
    """Return tables and moduli, such that modulus ** rank is at most 1000."""
    found = [(table_named(book_of("bits"), "x"), modulus) for modulus in (1, 2, 3, 10, 12)]
    found += [(table_named(book_of("signs"), name), modulus) for name in "hdsm" for modulus in (1, 2, 3, 4, 7, 12)]
    found += [(table_named(book_of("threes"), name), modulus) for name in "rxs" for modulus in (2, 3, 5, 9)]
    found += [(nothing(base), modulus) for base in (2, 3) for modulus in (1, 2, 12)]
    found += [(Table(book_of("bits"), [1, 2, -1, -1, 0]), 7), (Table(book_of("bits"), [1, 2, 3, 4, 5]), 2)]
    for seed in range(12):
        many = 1 + seed % 3
        for table in [random_table(seed, 2 + seed % 2, many), random_table(seed, 2 + seed % 2, many, sparse=True)]:
            found.append((table, [2, 12, 10, 3, 7, 4][seed % 6] if many < 3 else [2, 10, 5][seed % 3]))
    return found


def first_by_places(table, modulus, rest, levels):
    for level in range(levels):
        for row, line in enumerate(table.written(level)):
            for column, entry in enumerate(line):
                if entry % modulus == rest:
                    return level, row, column
    return None


class Near(unittest.TestCase):
    """Promise 43."""

    def test_interface(self):
        for call, names in [(first_rest, ["table", "modulus", "rest"]), (rests_of, ["table", "modulus"]),
                            (count_rest, ["table", "modulus", "rest", "level"])]:
            self.assertEqual(call.__module__, "blockbooks.rests")
            self.assertEqual(list(inspect.signature(call).parameters), names)

    def test_the_example(self):
        xor, h, s = table_named(book_of("bits"), "x"), table_named(book_of("signs"), "h"), table_named(book_of("signs"), "s")
        found = [first_rest(xor, 3, 2), rests_of(h, 3), count_rest(xor, 2, 1, 2), count_rest(s, 2, 1, 10)]
        self.assertEqual(found, [(2, 0, 2), [1, 2], 8, 59049])

    def test_near_levels(self):
        with at_once(60):
            for table, modulus in samples():
                levels = 5 if table.book.base == 2 else 4
                written = [[entry % modulus for line in table.written(level) for entry in line] for level in range(levels)]
                told = rests_of(table, modulus)
                self.assertEqual(told, sorted(set(told)))
                self.assertLessEqual({rest for level in written for rest in level}, set(told))
                for rest in range(modulus):
                    counts = [count_rest(table, modulus, rest, level) for level in range(levels)]
                    self.assertEqual(counts, [level.count(rest) for level in written])
                    first, wanted = first_rest(table, modulus, rest), first_by_places(table, modulus, rest, levels)
                    if wanted is None:
                        self.assertIs(first is None, rest not in told)
                        self.assertTrue(first is None or first[0] >= levels)
                    else:
                        self.assertEqual(first, wanted)

    def test_by_name_and_new_lists(self):
        xor = table_named(book_of("bits"), "x")
        self.assertEqual(first_rest(rest=2, modulus=3, table=xor), (2, 0, 2))
        self.assertEqual(count_rest(level=2, rest=1, modulus=2, table=xor), 8)
        told = rests_of(modulus=4, table=xor)
        told.append(9)
        self.assertEqual(rests_of(xor, 4), [0, 1, 2, 3])
        self.assertEqual(xor, table_named(book_of("bits"), "x"))


class First(unittest.TestCase):
    """Promise 44."""

    def test_all_that_come_and_only_those(self):
        with at_once(60):
            for table, modulus in samples():
                told = rests_of(table, modulus)
                for rest in range(modulus):
                    first = first_rest(table, modulus, rest)
                    self.assertIs(rest in told, first is not None)
                    if first is not None:
                        self.assertEqual([type(number) for number in first], [int] * 3)
                        self.assertEqual(table.entry(*first) % modulus, rest)

    def test_far_firsts(self):
        # The remainder comes at one place of one level alone, far out.
        with at_once():
            for base in (2, 3):
                for spots in [[(0, 1), (1, 0), (1, 1), (0, 0), (1, 0)], [(base - 1, 0)] * 5, [(0, base - 1), (1, 1)] * 2]:
                    for modulus in (2, 3):
                        if modulus ** (len(spots) + 1) <= 1000:
                            table = spot_table(base, spots, 1)
                            self.assertEqual(first_rest(table, modulus, 1), place_of(base, spots))
                            self.assertEqual(first_rest(scaled(table, -1), modulus, modulus - 1), place_of(base, spots))

    def test_rows_come_before_columns(self):
        rows = [("u", 0, [[[(1, "v")], [(1, "w")]], [[], []]]), ("v", 0, [[[], []], [[(1, "o")], []]]),
                ("w", 0, [[[], [(1, "o")]], [[], []]]), ("o", 1, [[[], []], [[], []]])]
        table = table_named(Book(2, rows), "u")
        self.assertEqual(first_rest(table, 5, 1), (2, 0, 3))
        self.assertEqual(first_rest(scaled(table, 2), 5, 2), (2, 0, 3))

    def test_least_place_by_written_levels(self):
        # Tables that are often 0, so that remainders come late and at few places.
        with at_once(60):
            for seed in range(40):
                table = Table(Book(2, sparse_rows(seed, 2, 4)), random_shares(seed, 4))
                for rest in range(3):
                    found, wanted = first_rest(table, 3, rest), first_by_places(table, 3, rest, 6)
                    self.assertTrue(found == wanted or (wanted is None and found[0] > 5), (found, wanted))

    def test_powers_that_come_late(self):
        # 2 ** level by 11 goes through all remainders but 0.
        power = table_named(book_of("bits"), "p")
        self.assertEqual(rests_of(power, 11), list(range(1, 11)))
        for level in range(10):
            self.assertEqual(first_rest(power, 11, 2 ** level % 11), (level, 0, 0))
        self.assertIsNone(first_rest(power, 11, 0))
        self.assertIsNone(first_rest(power, 12, 3))
        self.assertEqual(rests_of(power, 12), [1, 2, 4, 8])

    def test_wide_ones_come_soon(self):
        with at_once(30):
            for base in (2, 3):
                for many, modulus in [(6, 3), (3, 10), (2, 12), (1, 12), (4, 5), (6, 2), (6, 1)]:
                    for table in [random_table(many, base, many), random_table(many, base, many, sparse=True),
                                  Table(Book(base, ring_rows(base, many, (1, 1), 5)), [1] * many)]:
                        told = rests_of(table, modulus)
                        for rest in range(modulus):
                            first = first_rest(table, modulus, rest)
                            self.assertIs(first is not None, rest in told)
                            if first is not None and first[0] <= 100:
                                self.assertEqual(table.entry(*first) % modulus, rest)

    def test_modulus_1(self):
        for table, _ in samples():
            self.assertEqual(first_rest(table, 1, 0), (0, 0, 0))
            self.assertEqual(rests_of(table, 1), [0])
            self.assertEqual(count_rest(table, 1, 0, 7), table.book.base ** 14)

    def test_always_0(self):
        for base in (2, 3):
            for table in [nothing(base), Table(Book(base, [("a", 0, [[[(2, "a")]] * base] * base)]), [3])]:
                self.assertEqual(rests_of(table, 12), [0])
                self.assertEqual(first_rest(table, 12, 0), (0, 0, 0))
                self.assertIsNone(first_rest(table, 12, 5))


class Counts(unittest.TestCase):
    """Promise 45."""

    def test_far_levels(self):
        with at_once(60):
            for table, modulus in samples()[::2]:
                base = table.book.base
                for level in [7, 50, 100]:
                    counts = [count_rest(table, modulus, rest, level) for rest in range(modulus)]
                    self.assertEqual(sum(counts), base ** (2 * level))
                    below = [[count_rest(block, modulus, rest, level - 1) for rest in range(modulus)]
                             for line in blocks_of_table(table) for block in line if modulus ** rank_of(block) <= 1000]
                    if len(below) == base * base:
                        self.assertEqual(counts, [sum(several) for several in zip(*below)])

    def test_well_known(self):
        s, h, xor = table_named(book_of("signs"), "s"), table_named(book_of("signs"), "h"), table_named(book_of("bits"), "x")
        with at_once():
            for level in [0, 1, 5, 60, 100]:
                self.assertEqual(count_rest(s, 2, 1, level), 3 ** level)
                self.assertEqual(count_rest(h, 3, 1, level), (4 ** level + 2 ** level) // 2)
                self.assertEqual(count_rest(h, 3, 2, level), (4 ** level - 2 ** level) // 2)
                if level > 1:
                    self.assertEqual(count_rest(xor, 4, 3, level), 4 ** level // 4)


class Errors(unittest.TestCase):
    """Promise 46."""

    def test_modulus_rest_and_level(self):
        for table in [nothing(3), table_named(book_of("bits"), "x")]:
            for modulus in [0, -1, -12, -10 ** 30]:
                assert_error(self, InvalidNumber, modulus, rests_of, table, modulus)
                for rest in [-1, 0, 5]:
                    assert_error(self, InvalidNumber, modulus, first_rest, table, modulus, rest)
                    assert_error(self, InvalidNumber, modulus, count_rest, table, modulus, rest, -1)
                    assert_error(self, InvalidNumber, modulus, count_rest, level=3, rest=rest, modulus=modulus, table=table)
            for modulus in [1, 2, 12]:
                for rest in [-1, modulus, modulus + 1, -10 ** 30, 10 ** 30]:
                    assert_error(self, InvalidRest, rest, first_rest, table, modulus, rest)
                    assert_error(self, InvalidRest, rest, count_rest, table, modulus, rest, 4)
                    assert_error(self, InvalidRest, rest, count_rest, table, modulus, rest, -4)
                for level in [-1, -100]:
                    assert_error(self, InvalidLevel, level, count_rest, table, modulus, modulus - 1, level)


class Together(unittest.TestCase):
    """Promise 54."""

    def test_divisors(self):
        with at_once(60):
            for table in [table for table, _ in samples() if rank_of(table) <= 2]:
                for modulus, divisor in [(12, 4), (12, 3), (12, 6), (6, 2), (9, 3), (10, 5), (8, 1)]:
                    told = rests_of(table, modulus)
                    self.assertEqual(sorted({rest % divisor for rest in told}), rests_of(table, divisor))
                    for rest in range(divisor):
                        firsts = [first_rest(table, modulus, other) for other in told if other % divisor == rest]
                        self.assertEqual(first_rest(table, divisor, rest), min(firsts, default=None))
                        counts = [count_rest(table, modulus, other, 20) for other in range(rest, modulus, divisor)]
                        self.assertEqual(count_rest(table, divisor, rest, 20), sum(counts))

    def test_turned_tables_and_multiples(self):
        with at_once(60):
            for table, modulus in samples()[::2]:
                other = transposed(table)
                self.assertEqual(rests_of(other, modulus), rests_of(table, modulus))
                for rest in range(modulus):
                    for level in [0, 1, 2, 40]:
                        self.assertEqual(count_rest(other, modulus, rest, level), count_rest(table, modulus, rest, level))
                many = scaled(table, modulus)
                self.assertEqual(rests_of(many, modulus), [0])
                self.assertEqual(count_rest(many, modulus, 0, 9), table.book.base ** 18)
                if modulus > 1:
                    self.assertIsNone(first_rest(many, modulus, modulus - 1))


class RelationsAndMixtures(unittest.TestCase):
    """Promise 55."""

    def tables(self, seed):
        base, many = 2 + seed % 2, 1 + seed % 6
        chance = random.Random(seed)
        book = Book(base, random_rows(seed, base, many) if seed % 2 else sparse_rows(seed, base, many))
        tables = [Table(book, [chance.randint(-4, 4) for _ in range(many)]) for _ in range(3)]
        other = Table(Book(base, chain_rows(base, [(0, 1)], [1], 2)), [chance.randint(0, 1), 1])
        return tables + [other] if seed % 3 else tables[:2] + [added(tables[0], other), other]

    def test_a_mixture_exactly_if_a_sum_of_relations_has_1_for_it(self):
        kinds = set()
        for seed in range(60):
            tables = self.tables(seed)
            for at in range(len(tables)):
                others = tables[:at] + tables[at + 1:]
                found = mixture(tables[at], others)
                # The numbers for this table are multiples of the first one, if it is put ahead of the others.
                ahead = [told[0] for told in relations([tables[at]] + others)]
                self.assertIs(found is not None, 1 in ahead)
                kinds.add(found is None)
                if found is not None:
                    whole = nothing(tables[at].book.base)
                    for number, table in zip(found, others):
                        whole = added(whole, scaled(table, number))
                    self.assertTrue(are_alike(whole, tables[at]))
        self.assertEqual(kinds, {True, False})

    def test_entry_by_entry(self):
        for one, other in itertools.product([table_named(book_of("signs"), name) for name in "hdsm"], repeat=2):
            both = entrywise(one, other)
            self.assertEqual(mixture(both, [both]), [1])
            self.assertEqual(relations([both, scaled(both, -2)]), [[2, 1]])


if __name__ == "__main__":
    unittest.main()

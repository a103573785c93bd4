"""Promises 61 to 64 and 72: the rules of sums and traces, and far remainders."""

import inspect
import random
import unittest
from fractions import Fraction

from blockbooks.areas import total_at, trace_at
from blockbooks.books import Book
from blockbooks.errors import InvalidLevel, InvalidNumber
from blockbooks.joins import product, scaled, transposed
from blockbooks.levels import far_total, far_trace, total_rule, trace_rule
from blockbooks.tables import Table, table_named
from tests.helper import (
    ROWS_OF_BITS, ROWS_OF_SIGNS, ROWS_OF_THREES, assert_error, at_once, book_of, nothing, random_rows, random_shares,
    random_table, ring_rows, sparse_rows, spot_table, zero_blocks,
)

RULES = [(total_rule, total_at), (trace_rule, trace_at)]
REMAINDERS = [(far_total, total_at), (far_trace, trace_at)]


def samples():
    """Return tables of both bases, of up to five named tables and of all sorts."""
    found = [nothing(2), nothing(3), Table(book_of("bits"), [1, 2, -1, -1, 0]), Table(book_of("signs"), [0] * 4)]
    for kind in ["bits", "signs", "threes"]:
        book = book_of(kind)
        found += [table_named(book, name) for name in book.names] + [Table(book, random_shares(1, len(book.names)))]
    for base in (2, 3):
        found += [spot_table(base, [(1, 0), (0, 0), (1, 1)][:deep], -5) for deep in range(4)]
        found += [table_named(Book(base, ring_rows(base, many, (1, 1))), "a") for many in range(1, 6)]
    for seed in range(20):
        found.append(random_table(seed, 2 + seed % 2, 1 + seed % 5))
        found.append(random_table(seed, 2 + seed % 2, 1 + seed % 5, sparse=True))
    return found


def shortest(sums):
    """Return the shortest rule of sums by fractions, as Berlekamp and Massey tell it."""
    rule, earlier = [], []
    failed, worth = -1, Fraction(0)
    for at, told in enumerate(sums):
        rest = told - sum(number * sums[at - 1 - back] for back, number in enumerate(rule))
        if rest == 0:
            continue
        if failed < 0:
            rule, failed, worth = [Fraction(0)] * (at + 1), at, Fraction(rest)
            continue
        factor = Fraction(rest) / worth
        change = [Fraction(0)] * (at - failed - 1) + [factor] + [-factor * number for number in earlier]
        wide = max(len(change), len(rule))
        further = [(change + [Fraction(0)] * wide)[k] + (rule + [Fraction(0)] * wide)[k] for k in range(wide)]
        if at - len(rule) > failed - len(earlier):
            earlier, failed, worth = rule, at, Fraction(rest)
        rule = further
    return rule


def goes_on(rule, sums):
    many = len(rule)
    return all(sums[n + many] == sum(c * sums[n + many - 1 - i] for i, c in enumerate(rule)) for n in range(len(sums) - many))


class Rules(unittest.TestCase):
    """Promise 61."""

    def test_interface(self):
        for call, names in [(total_rule, ["table"]), (trace_rule, ["table"]), (far_total, ["table", "level", "modulus"]),
                            (far_trace, ["table", "level", "modulus"])]:
            self.assertEqual(call.__module__, "blockbooks.levels")
            self.assertEqual(list(inspect.signature(call).parameters), names)

    def test_the_example(self):
        xor, h, s = table_named(book_of("bits"), "x"), table_named(book_of("signs"), "h"), table_named(book_of("signs"), "s")
        found = [total_rule(xor), total_rule(s), trace_rule(h), far_total(s, 10 ** 30, 1000), far_trace(s, 10, 1000)]
        self.assertEqual(found, [[12, -32], [3], [0], 1, 24])

    def test_shortest(self):
        for table in samples():
            for rule, sum_at in RULES:
                found = rule(table)
                self.assertEqual({type(number) for number in found} - {int}, set())
                sums = [sum_at(table, level) for level in range(2 * len(table.shares) + 6)]
                self.assertTrue(goes_on(found, sums), (table.shares, found))
                self.assertEqual(found, shortest(sums))

    def test_empty_exactly_if_all_are_0(self):
        kinds = set()
        for table in samples():
            for rule, sum_at in RULES:
                never = not any(sum_at(table, level) for level in range(12))
                kinds.add(never)
                self.assertIs(rule(table) == [], never)
        self.assertEqual(kinds, {True, False})

    def test_told_lists_are_new_and_the_table_stays(self):
        table = table_named(book_of("bits"), "x")
        for rule in (total_rule, trace_rule):
            first = rule(table=table)
            first.append(7)
            self.assertIsNot(rule(table), rule(table))
            self.assertEqual(rule(table), rule(table_named(book_of("bits"), "x")))
        self.assertEqual(table, table_named(book_of("bits"), "x"))

    def test_large_numbers_come_soon(self):
        with at_once():
            for base in (2, 3):
                table = random_table(9, base, 6)
                for rule, sum_at in RULES:
                    found = rule(table)
                    self.assertEqual(len(found), 6)
                    self.assertTrue(goes_on(found, [sum_at(table, level) for level in range(40)]))

    def test_rules_with_a_last_number_0(self):
        # The sums are 4, 0, 0 .. or 0, 4, 0, 0 ..: the rule must hold from the first level on.
        for base in (2, 3):
            once = table_named(Book(base, [("a", 4, zero_blocks(base))]), "a")
            self.assertEqual([total_rule(once), trace_rule(once)], [[0], [0]])
            self.assertEqual([total_rule(spot_table(base, [(0, 1)])), trace_rule(spot_table(base, [(0, 1)]))], [[0, 0], []])
            self.assertEqual(trace_rule(spot_table(base, [(1, 1)] * 3)), [0] * 4)


class KnownRules(unittest.TestCase):
    """Promise 62."""

    RULES_OF = {
        "bits": {"x": ([12, -32], []), "n": ([12, -32], [6, -8]), "r": ([12, -32], [6, -8]), "c": ([12, -32], [6, -8]),
                 "p": ([8], [4])},
        "signs": {"h": ([2], [0]), "d": ([4], [4]), "s": ([3], [2]), "m": ([1], [2])},
        "threes": {"r": ([36, -243], [12, -27]), "c": ([36, -243], [12, -27]), "x": ([36, -243], [12, -27]), "p": ([27], [9]),
                   "s": ([7], [3]), "m": ([1], [3])},
    }

    def test_known_rules_and_those_of_multiples(self):
        for kind, told in self.RULES_OF.items():
            book = book_of(kind)
            for name, wanted in told.items():
                table = table_named(book, name)
                for number in [1, -1, 12, -99, 10 ** 20]:
                    many = scaled(table, number)
                    self.assertEqual((total_rule(many), trace_rule(many)), wanted, (kind, name))
                    shares = Table(book, [number % 99 * share for share in table.shares])
                    if number % 99:
                        self.assertEqual((total_rule(shares), trace_rule(shares)), wanted, (kind, name))

    def test_far_powers(self):
        signs, bits, threes = [book_of(kind) for kind in ("signs", "bits", "threes")]
        with at_once():
            for level in [0, 1, 10, 10 ** 6, 10 ** 30, 10 ** 30 - 1]:
                for modulus in [1, 2, 1000, 10 ** 12, 10 ** 12 - 11, 7]:
                    self.assertEqual(far_total(table_named(signs, "s"), level, modulus), pow(3, level, modulus))
                    self.assertEqual(far_trace(table_named(signs, "s"), level, modulus), pow(2, level, modulus))
                    self.assertEqual(far_total(table_named(bits, "p"), level, modulus), pow(8, level, modulus))
                    self.assertEqual(far_trace(table_named(threes, "p"), level, modulus), pow(9, level, modulus))
                    self.assertEqual(far_total(Table(signs, [0, -2, 0, 0]), level, modulus), -2 * pow(4, level, modulus) % modulus)
                    twice = 2 * modulus
                    wanted = (pow(8, level, twice) - pow(4, level, twice)) % twice // 2
                    self.assertEqual(far_total(table_named(bits, "x"), level, modulus), wanted)


class Far(unittest.TestCase):
    """Promise 63."""

    def test_near_levels(self):
        for table in samples()[::2]:
            for call, sum_at in REMAINDERS:
                for level in [0, 1, 2, 3, 7, 40, 100]:
                    for modulus in [1, 2, 9, 10 ** 12, 10 ** 12 - 39]:
                        self.assertEqual(call(table, level, modulus), sum_at(table, level) % modulus)

    def test_far_levels_by_their_rules(self):
        with at_once(60):
            for table in samples()[::3]:
                for (call, _), (rule, _) in zip(REMAINDERS, RULES):
                    told = rule(table)
                    for level in [10 ** 30 - 50, 10 ** 17 + 3]:
                        for modulus in [10 ** 12, 97]:
                            last = [call(table, level - 1 - i, modulus) for i in range(len(told))]
                            wanted = sum(c * some for c, some in zip(told, last)) % modulus
                            self.assertEqual(call(table, level, modulus), wanted)

    def test_by_name(self):
        s = table_named(book_of("signs"), "s")
        self.assertEqual(far_total(modulus=1000, level=10 ** 30, table=s), 1)
        self.assertEqual(far_trace(modulus=1000, table=s, level=10), 24)

    def test_six_named_tables_come_soon(self):
        with at_once():
            for seed in range(10):
                table = random_table(seed, 2 + seed % 2, 6)
                for call, _ in REMAINDERS:
                    self.assertIn(call(table, 10 ** 30, 10 ** 12), range(10 ** 12))


class Errors(unittest.TestCase):
    """Promise 64."""

    def test_level_then_modulus(self):
        for table in [nothing(2), random_table(1, 3, 2)]:
            for call, _ in REMAINDERS:
                for level in [-1, -10 ** 30]:
                    for modulus in [-1, 0, 1, 10 ** 12]:
                        assert_error(self, InvalidLevel, level, call, table, level, modulus)
                        assert_error(self, InvalidLevel, level, call, modulus=modulus, level=level, table=table)
                for modulus in [0, -1, -10 ** 30]:
                    for level in [0, 5, 10 ** 30]:
                        assert_error(self, InvalidNumber, modulus, call, table, level, modulus)


class Together(unittest.TestCase):
    """Promise 72."""

    def test_rules_hold_at_many_levels_and_are_short(self):
        for seed in range(24):
            base, many = 2 + seed % 2, 1 + seed % 6
            rows = random_rows(seed, base, many) if seed % 3 else sparse_rows(seed, base, many)
            table = Table(Book(base, rows), random_shares(seed, many))
            for rule, sum_at in RULES:
                found = rule(table)
                self.assertLessEqual(len(found), many)
                self.assertTrue(goes_on(found, [sum_at(table, level) for level in range(60)]))

    def test_turned_tables(self):
        for base, rows in [(2, ROWS_OF_BITS), (2, ROWS_OF_SIGNS), (3, ROWS_OF_THREES)]:
            for table in [Table(Book(base, rows), random_shares(3, len(rows))), random_table(base, base, 4)]:
                other = transposed(table)
                self.assertEqual((total_rule(other), trace_rule(other)), (total_rule(table), trace_rule(table)))
                for level in [0, 1, 2, 30, 100]:
                    self.assertEqual(total_at(other, level), total_at(table, level))
                    self.assertEqual(trace_at(other, level), trace_at(table, level))
                for call, _ in REMAINDERS:
                    self.assertEqual(call(other, 10 ** 29, 10 ** 9), call(table, 10 ** 29, 10 ** 9))

    def test_products_in_both_sequences(self):
        chance = random.Random(72)
        for seed in range(8):
            base = 2 + seed % 2
            one, other = random_table(seed, base, 2), random_table(70 + seed, base, 1 + chance.randint(0, 2))
            here, there = product(one, other), product(other, one)
            self.assertEqual(trace_rule(here), trace_rule(there))
            for level in [0, 1, 2, 3, 50]:
                self.assertEqual(trace_at(here, level), trace_at(there, level))
            self.assertEqual(far_trace(here, 10 ** 30, 10 ** 12), far_trace(there, 10 ** 30, 10 ** 12))


if __name__ == "__main__":
    unittest.main()

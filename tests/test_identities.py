"""Promises 29 (of inverse_among), 32 to 35, 49 and 57: sides, where they part, and inverses."""

import inspect
import itertools
import random
import unittest

from blockbooks.books import Book
from blockbooks.ends import alike_from, last_level
from blockbooks.errors import InvalidBase, InvalidName, UnlikeBases
from blockbooks.forms import nodes_of, plain, rank_of
from blockbooks.identities import identity_of, identity_parts, inverse_among, side_table
from blockbooks.joins import added, product, scaled, transposed
from blockbooks.parting import are_alike, parting
from blockbooks.tables import Table, table_named
from tests.helper import (
    ROWS_OF_BITS, ROWS_OF_SIGNS, ROWS_OF_THREES, assert_error, assert_plain, at_once, book_of, chain_rows, combined,
    multiplied, near_levels, nothing, place_of, random_rows, ring_rows, spots_far, turned, unit_square, zero_blocks,
)

ONES = ("e", 1, [[[(1, "e")], []], [[], [(1, "e")]]])
THREE_ONES = ("e", 1, [[[(1, "e")] if i == j else [] for j in range(3)] for i in range(3)])

# Identities of the signs: the square of h, s and its inverse, the turned ones, h and the sums over parts.
SIGNS = Book(2, ROWS_OF_SIGNS + [ONES])
KNOWN_OF_SIGNS = [
    ([(1, ["h", "h"])], [(1, ["d"])]),
    ([(1, ["s", "m"])], [(1, [])]),
    ([(1, ["m", "s"])], [(1, ["e"])]),
    ([(1, ["h'"])], [(1, ["h"])]),
    ([(1, ["s'", "m'"])], [(1, [])]),
    ([(1, ["d", "s"])], [(1, ["s", "d"])]),
    ([(1, ["d", "m", "h"])], [(1, ["m", "h", "d"])]),
    ([(1, ["e"])], [(1, [])]),
    ([(1, ["h", "h", "s"])], [(1, ["s", "d"])]),
    ([(1, ["e'", "m'", "e"])], [(1, ["m'"])]),
]
BITS = Book(2, ROWS_OF_BITS + [ONES])
KNOWN_OF_BITS = [
    ([(1, ["x"]), (2, ["n"])], [(1, ["r"]), (1, ["c"])]),
    ([(1, ["r'"])], [(1, ["c"])]),
    ([(1, ["x'"])], [(1, ["x"])]),
    ([(1, ["p", "x"])], [(1, ["p", "r"])]),
    ([(1, ["p", "r", "p"])], [(1, ["p", "c'", "p"])]),
    ([(1, ["x", "r"]), (2, ["n", "r"])], [(1, ["r", "r"]), (1, ["c", "r"])]),
]
THREES = Book(3, ROWS_OF_THREES[:5] + [ROWS_OF_THREES[5]])
KNOWN_OF_THREES = [
    ([(1, ["s", "m"])], [(1, [])]),
    ([(1, ["m", "s"])], [(1, [])]),
    ([(1, ["r'"])], [(1, ["c"])]),
    ([(1, ["x'"])], [(1, ["x"])]),
    ([(1, ["m'", "s'"])], [(1, [])]),
]
KNOWN = [(SIGNS, KNOWN_OF_SIGNS), (BITS, KNOWN_OF_BITS), (THREES, KNOWN_OF_THREES)]


def square_of_word(book, word, level):
    """Return the product of the squares of a word, by the words of the interface."""
    found = unit_square(book.base ** level)
    for part in word:
        square = table_named(book, part[0]).written(level)
        found = multiplied(found, turned(square) if part.endswith("'") else square)
    return found


def square_of_side(book, side, level):
    zero = [[0] * book.base ** level for _ in range(book.base ** level)]
    return combined([zero] + [square_of_word(book, word, level) for _, word in side], [0] + [n for n, _ in side])


def parts_by_squares(book, side, other_side, levels):
    """Return what `identity_parts` must return if the sides part at one of some levels."""
    for level in range(levels):
        one, other = [square_of_side(book, some, level) for some in (side, other_side)]
        for row, (line, other_line) in enumerate(zip(one, other)):
            for column, (entry, other_entry) in enumerate(zip(line, other_line)):
                if entry != other_entry:
                    return level, row, column, entry - other_entry
    return None


def around(side, ahead, behind):
    return [(number, ahead + word + behind) for number, word in side]


class KnownIdentities(unittest.TestCase):
    """Promise 32."""

    def test_interface(self):
        for call, names in [(side_table, ["book", "side"]), (identity_parts, ["book", "side", "other_side"]),
                            (identity_of, ["base"]), (inverse_among, ["table", "tables"])]:
            self.assertEqual(call.__module__, "blockbooks.identities")
            self.assertEqual(list(inspect.signature(call).parameters), names)

    def test_the_example(self):
        signs = book_of("signs")
        h, d, s, m = [table_named(signs, name) for name in "hdsm"]
        found = [identity_parts(signs, [(1, ["h", "h"])], [(1, ["d"])]), identity_parts(signs, [(1, ["s", "m"])], [(1, [])]),
                 identity_parts(signs, [(1, ["h", "s"])], [(1, ["s", "h"])]), identity_parts(signs, [(1, ["h'"])], [(1, ["h"])]),
                 side_table(signs, [(2, ["s"]), (-1, ["m"])]).written(1), inverse_among(s, [m, h]), inverse_among(h, [s, m]),
                 identity_of(3).entry(50, 7, 7)]
        self.assertEqual(found, [None, None, (1, 0, 0, 1), None, [[1, 0], [3, 1]], [1, 0], None, 1])

    def test_both_ways_round(self):
        for book, known in KNOWN:
            for side, other in known:
                self.assertIsNone(identity_parts(book, side, other), (side, other))
                self.assertIsNone(identity_parts(book, other, side), (side, other))

    def test_words_ahead_and_behind(self):
        for book, known in KNOWN:
            for side, other in known:
                for ahead in [[], [book.names[0]], [book.names[-1] + "'"]]:
                    for behind in [[], [book.names[3]], [book.names[1] + "'"]]:
                        if max(len(ahead + word + behind) for _, word in side + other) <= 3:
                            sides = around(side, ahead, behind), around(other, ahead, behind)
                            self.assertIsNone(identity_parts(book, *sides), sides)

    def test_more_terms_and_factors(self):
        for book, known in KNOWN:
            for side, other in known:
                more = [(-3, [book.names[0]]), (5, [book.names[2] + "'", book.names[-1]])]
                for number in [1, -1, 0, 7, -10 ** 30]:
                    one = [(number * n, word) for n, word in side]
                    two = [(number * n, word) for n, word in other]
                    self.assertIsNone(identity_parts(book, one + more[:4 - len(one)], more[:4 - len(one)] + two))
                    self.assertIsNone(identity_parts(book, one + more[:1], two + more[:1]))

    def test_one_table_more_on_one_side(self):
        for book, known in KNOWN:
            for side, other in known:
                for name in book.names:
                    table = table_named(book, name)
                    level, row, column, entry = parting(table, nothing(book.base))
                    for number in [1, -2, 10 ** 30]:
                        more = [(number, [name])]
                        self.assertEqual(identity_parts(book, side + more, other), (level, row, column, number * entry))
                        self.assertEqual(identity_parts(book, more + side, other), (level, row, column, number * entry))
                        self.assertEqual(identity_parts(book, side, other + more), (level, row, column, -number * entry))

    def test_terms_that_fall_out(self):
        self.assertIsNone(identity_parts(SIGNS, [], []))
        self.assertIsNone(identity_parts(SIGNS, [(0, ["h"])], []))
        self.assertIsNone(identity_parts(SIGNS, [(2, ["h"]), (-2, ["h"])], [(0, ["s", "m"])]))
        self.assertIsNone(identity_parts(SIGNS, [(1, ["h"]), (1, ["h"])], [(2, ["h"])]))
        self.assertEqual(identity_parts(SIGNS, [(3, [])], []), (0, 0, 0, 3))
        self.assertEqual(identity_parts(BITS, [(3, ["n"])], []), (1, 1, 1, 3))

    def test_random_words_by_squares(self):
        chance = random.Random(32)
        for at in range(60):
            base = 2 + at % 2
            rows = random_rows(at, base, 2)
            book = Book(base, rows)
            names = [name + mark for name in book.names for mark in ("", "'")]
            sides = [[(chance.randint(-3, 3), [chance.choice(names) for _ in range(chance.randint(0, 3))])
                      for _ in range(chance.randint(0, 3))] for _ in range(2)]
            found = identity_parts(book, *sides)
            wanted = parts_by_squares(book, *sides, 3)
            if found is None or found[0] < 3:
                self.assertEqual(found, wanted)
            else:
                self.assertIsNone(wanted)

    def test_by_name(self):
        self.assertIsNone(identity_parts(other_side=[(1, ["d"])], side=[(1, ["h", "h"])], book=SIGNS))
        self.assertEqual(side_table(side=[(1, ["e"])], book=SIGNS), identity_of(base=2))
        self.assertEqual(inverse_among(tables=[identity_of(2)], table=identity_of(2)), [1])

    def test_arguments_stay(self):
        side, other = [(1, ["h", "s'"]), (0, [])], [(2, ["m"])]
        identity_parts(SIGNS, side, other), side_table(SIGNS, side)
        self.assertEqual((side, other), ([(1, ["h", "s'"]), (0, [])], [(2, ["m"])]))

    def test_wide_words_come_soon(self):
        # Two rings of random tables, three named ones in each, and a sum: words whose ranks have products of 12.
        for base in (2, 3):
            one, two = random_rows(1, base, 3), random_rows(2, base, 3)
            letters = dict(zip([told[0] for told in one], "abc")), dict(zip([told[0] for told in two], "def"))
            rows = [(names[name], start, [[[(c, names[n]) for c, n in block] for block in line] for line in blocks])
                    for names, some in zip(letters, (one, two)) for name, start, blocks in some]
            book = Book(base, rows)
            with at_once():
                self.assertIsNone(identity_parts(book, [(2, ["a", "d"]), (1, ["b", "e"])], [(1, ["b", "e"]), (2, ["a", "d"])]))
                self.assertIsNotNone(identity_parts(book, [(2, ["a", "d"]), (1, ["b", "e"])], [(1, ["d", "a"])]))
                whole = side_table(book, [(2, ["a", "d"]), (1, ["b'", "e"])])
                self.assertLessEqual(rank_of(whole), 18)
                row, column = spots_far(1, base, 2)[4]
                wanted = combined([square_of_word(book, ["a", "d"], 2), square_of_word(book, ["b'", "e"], 2)], [2, 1])
                self.assertEqual(whole.entry(2, row, column), wanted[row][column])

    def test_a_sum_of_wide_tables_is_taken_apart(self):
        # y is a and c together: products with it are the sums of the products.
        with at_once():
            for base in (2, 3):
                rows = []
                for names, seed in (("ab", 4), ("cd", 5)):
                    told = random_rows(seed, base, 2)
                    letters = dict(zip([name for name, _, _ in told], names))
                    rows += [(letters[name], start, [[[(n, letters[other]) for n, other in block] for block in line]
                                                     for line in blocks]) for name, start, blocks in told]
                (_, start, blocks), (_, other_start, others) = rows[0], rows[2]
                both = [[one + two for one, two in zip(line, other_line)] for line, other_line in zip(blocks, others)]
                book = Book(base, rows + [("y", start + other_start, both)])
                for word in [["y", "b"], ["b'", "y"], ["y'", "d"], ["y", "c'"]]:
                    apart = [(1, [part.replace("y", name) for part in word]) for name in "ac"]
                    self.assertIsNone(identity_parts(book, [(1, word)], apart))
                    self.assertIsNone(identity_parts(book, apart, [(1, word)]))


class Ones(unittest.TestCase):
    """Promise 33."""

    def test_identity_of(self):
        for base in (2, 3):
            table = identity_of(base)
            blocks = [[[(1, "a")] if i == j else [] for j in range(base)] for i in range(base)]
            self.assertEqual(table, Table(Book(base, [("a", 1, blocks)]), [1]))
            assert_plain(self, table)
            for level in near_levels(base):
                self.assertEqual(table.written(level), unit_square(base ** level))
            last = base ** 100 - 1
            self.assertEqual([table.entry(100, at, other) for at, other in [(0, 0), (last, last), (7, 7), (7, 8), (last, 0)]],
                             [1, 1, 1, 0, 0])

    def test_other_integers(self):
        for base in [-3, -2, 0, 1, 4, 5, 10 ** 30, -10 ** 30]:
            assert_error(self, InvalidBase, base, identity_of, base)
            assert_error(self, InvalidBase, base, identity_of, base=base)

    def test_sides_of_the_empty_word_and_of_no_terms(self):
        for book in [SIGNS, THREES, Book(2, []), Book(3, [])]:
            self.assertEqual(side_table(book, [(1, [])]), identity_of(book.base))
            self.assertEqual(side_table(book, [(-5, [])]), scaled(identity_of(book.base), -5))
            self.assertEqual(side_table(book, []), nothing(book.base))
            self.assertEqual(side_table(book, [(1, []), (-1, [])]), nothing(book.base))


class Inverses(unittest.TestCase):
    """Promises 29 and 34."""

    def check(self, table, tables, wanted):
        found = inverse_among(table, tables)
        self.assertEqual(found, wanted)
        if wanted is not None:
            mixed = nothing(table.book.base)
            for number, other in zip(wanted, tables):
                mixed = added(mixed, scaled(other, number))
            self.assertEqual(product(table, mixed), identity_of(table.book.base))

    def test_sums_over_parts(self):
        for book in [SIGNS, THREES]:
            s, m = table_named(book, "s"), table_named(book, "m")
            other = table_named(book, book.names[0])
            for table, inverse in [(s, m), (m, s), (transposed(s), transposed(m))]:
                self.check(table, [inverse], [1])
                for place in range(3):
                    tables = [other, table]
                    tables.insert(place, inverse)
                    self.check(table, tables, [int(at == place) for at in range(3)])
                self.check(table, [scaled(inverse, -1), other], [-1, 0])
                self.check(table, [scaled(inverse, 2), scaled(inverse, 3)], [2, -1])
                self.check(table, [added(inverse, other), other], [1, -1])
                self.check(table, [scaled(inverse, 2), other], None)
                self.check(scaled(table, 2), [inverse, other], None)
                self.check(table, [other], None)
                self.check(scaled(table, -1), [inverse, nothing(book.base)], [-1, 0])

    def test_a_table_by_itself(self):
        turn = Book(2, [("t", 1, [[[], [(1, "t")]], [[(1, "t")], []]])])
        self.check(table_named(turn, "t"), [table_named(turn, "t"), identity_of(2)], [1, 0])
        self.check(identity_of(3), [identity_of(3)], [1])
        self.check(identity_of(3), [identity_of(3), identity_of(3)], [0, 1])

    def test_rank_three(self):
        # A level with ones on the diagonal and anything above it has an inverse of integers: told by its blocks,
        # the inverse is 1 and the negative of what stands above, turned and turned.
        rows = [("u", 1, [[[(1, "u")], [(2, "v")]], [[], [(1, "u")]]]), ("v", 1, [[[(1, "v")], []], [[], [(1, "v")]]]),
                ("w", 1, [[[(1, "w")], [(-2, "v")]], [[], [(1, "w")]]])]
        book = Book(2, rows)
        u, v, w = [table_named(book, name) for name in "uvw"]
        self.assertEqual(u.written(1), [[1, 2], [0, 1]])
        products = multiplied(u.written(2), w.written(2))
        found = inverse_among(u, [w, v])
        self.assertEqual(found is not None, products == unit_square(4))
        self.check(v, [u, v, w], [0, 1, 0])

    def test_written_otherwise(self):
        s, m = table_named(SIGNS, "s"), table_named(SIGNS, "m")
        twice = Book(2, [("a", 4, [[[(2, "a")], []], [[(-2, "b")], [(1, "b"), (1, "a")]]]),
                         ("b", 4, [[[(1, "a"), (1, "b")], []], [[(-1, "a"), (-1, "b")], [(2, "b")]]])])
        same = Table(twice, [1, 0])
        self.assertEqual(same.written(1), [[8, 0], [-8, 8]])
        other = Book(2, [("a", 1, [[[(1, "b")], []], [[(-1, "a")], [(1, "b")]]]), ("b", 1, [[[(1, "a")], []], [[(-1, "b")], [(1, "a")]]])])
        self.assertTrue(are_alike(Table(other, [1, 0]), m))
        self.check(s, [Table(other, [1, 0])], [1])
        self.check(s, [Table(other, [3, -2]), s], [1, 0])
        self.check(plain(s), [s, plain(m)], [0, 1])

    def test_no_tables_and_tables_that_are_always_0(self):
        self.assertIsNone(inverse_among(identity_of(2), []))
        self.assertIsNone(inverse_among(nothing(3), [identity_of(3)]))
        self.assertIsNone(inverse_among(identity_of(3), [nothing(3)]))
        self.assertIsNone(inverse_among(nothing(2), [nothing(2)]))

    def test_rank_three_comes_soon(self):
        with at_once():
            for base in (2, 3):
                tables = [Table(Book(base, random_rows(seed, base, 3)), [1, 2, 3]) for seed in range(5)]
                self.assertIsNone(inverse_among(tables[0], tables[1:]))

    def test_bases(self):
        for table, *tables in itertools.product([identity_of(2), identity_of(3)], repeat=4):
            bases = [some.book.base for some in [table] + tables]
            if len(set(bases)) > 1:
                assert_error(self, UnlikeBases, (bases[0], 5 - bases[0]), inverse_among, table, tables)
            else:
                self.assertEqual(inverse_among(table, tables), [0, 0, 1])
        assert_error(self, UnlikeBases, (2, 3), inverse_among, nothing(2), [nothing(3), nothing(3)])

    def test_the_list_stays_and_is_new(self):
        tables = [table_named(SIGNS, "m"), table_named(SIGNS, "h")]
        before = list(tables)
        first = inverse_among(table_named(SIGNS, "s"), tables)
        first.append(1)
        self.assertTrue(all(one is other for one, other in zip(tables, before)) and len(tables) == 2)
        self.assertEqual(inverse_among(table_named(SIGNS, "s"), tables), [1, 0])


class Names(unittest.TestCase):
    """Side check."""

    def test_wrong_strings(self):
        for wrong in ["z", "", "'", "hs", "h''", "H", "z'", "'h", "h ", " h", "h'h"]:
            for side in [[(1, [wrong])], [(1, ["h"]), (2, ["s", wrong, "q"])], [(0, ["h", "h'", wrong])], [(1, []), (1, [wrong, "?"])]]:
                assert_error(self, InvalidName, wrong, side_table, SIGNS, side)
                assert_error(self, InvalidName, wrong, identity_parts, SIGNS, side, [(1, ["h"])])
                assert_error(self, InvalidName, wrong, identity_parts, SIGNS, [(1, ["h"])], side)
                assert_error(self, InvalidName, wrong, identity_parts, SIGNS, side, [(1, ["!"])])

    def test_books_without_named_tables(self):
        for base in (2, 3):
            assert_error(self, InvalidName, "a", side_table, Book(base, []), [(1, ["a"])])
            self.assertIsNone(identity_parts(Book(base, []), [], []))
            self.assertEqual(identity_parts(Book(base, []), [(2, [])], [(1, [])]), (0, 0, 0, 1))


class FarOut(unittest.TestCase):
    """Promise 35."""

    SPOTS = [(2, [(0, 1), (1, 1), (0, 0), (1, 0)]), (3, [(2, 0), (1, 2), (0, 0), (2, 1)]), (2, [(1, 0)] * 3), (3, [(0, 2), (1, 0)]),
             (2, [(1, 1)]), (3, [])]

    def books(self):
        for base, spots in self.SPOTS:
            ones = [("e", 1, [[[(1, "e")] if i == j else [] for j in range(base)] for i in range(base)]),
                    ("f", 1, [[[(1, "f")]] * base] * base)]
            chain = chain_rows(base, spots, [1] * len(spots), 1, names="uvwxyz")
            if len(chain) <= 4:
                yield base, spots, Book(base, chain + ones)
            yield base, spots, Book(base, chain + ones[:1])
            yield base, spots, Book(base, chain + ones[1:])

    def test_ahead_behind_and_turned(self):
        for base, spots, book in self.books():
            level, row, column = place_of(base, spots)
            ones = "e" in book.names
            self.assertEqual(identity_parts(book, [(3, ["u"])], []), (level, row, column, 3))
            self.assertEqual(identity_parts(book, [], [(3, ["u'"])]), (level, column, row, -3))
            if ones:
                for word in [["e", "u"], ["u", "e"], ["e", "u", "e'"]]:
                    self.assertEqual(identity_parts(book, [(2, word)], []), (level, row, column, 2))
                    self.assertIsNone(identity_parts(book, [(2, word)], [(2, ["u"])]))
                    self.assertEqual(identity_parts(book, [(1, word)], [(1, ["u"]), (5, ["u"])]), (level, row, column, -5))
            else:
                # Every row of the product is the one row of u, or every column its one column.
                self.assertEqual(identity_parts(book, [(1, ["f", "u"])], []), (level, 0, column, 1))
                self.assertEqual(identity_parts(book, [(1, ["u", "f"])], []), (level, row, 0, 1))
                self.assertEqual(identity_parts(book, [(1, ["f", "u", "f"])], []), (level, 0, 0, 1))
                wanted = None if (row, column) == (0, 0) and level == 0 else min((level, 0, column, 1), (level, row, 0, -1))
                self.assertEqual(identity_parts(book, [(1, ["f", "u"])], [(1, ["u", "f"])]), wanted)

    def test_by_itself(self):
        for base, spots, book in self.books():
            level, row, column = place_of(base, spots)
            if rank_of(table_named(book, "u")) ** 2 <= 12:
                self.assertEqual(identity_parts(book, [(1, ["u", "u"])], []), (level, row, column, 1) if row == column else None)
                self.assertEqual(identity_parts(book, [(1, ["u", "u'"])], []), (level, row, row, 1))
                self.assertEqual(identity_parts(book, [(1, ["u'", "u"])], []), (level, column, column, 1))

    def test_two_places(self):
        for seed in range(30):
            chance = random.Random(seed)
            base = 2 + seed % 2
            level, deep = chance.choice([(1, 1), (2, 2), (2, 1), (1, 3), (2, 3)])
            spots, others = [[(chance.randrange(base), chance.randrange(base)) for _ in range(many)] for many in (level, deep)]
            rows = chain_rows(base, spots, [1] * level, 2, names="abc") + chain_rows(base, others, [1] * deep, 3, names="wxyz")
            book = Book(base, rows[:6] if len(rows) <= 6 else rows)
            one, two = place_of(base, spots), place_of(base, others)
            wanted = (one[0], one[1], two[2], 6) if one[0] == two[0] and one[2] == two[1] else None
            self.assertEqual(identity_parts(book, [(1, ["a", "w"])], []), wanted)
            exchanged = (one[0], two[1], one[2], 6) if one[0] == two[0] and two[2] == one[1] else None
            self.assertEqual(identity_parts(book, [(1, ["w", "a"])], []), exchanged)
            # Both together part where the first of them does.
            parts = [place[:3] + (sign * 6,) for place, sign in ((wanted, 1), (exchanged, -1)) if place]
            first = min(parts) if parts and (wanted or (0,))[:3] != (exchanged or (1,))[:3] else None
            self.assertEqual(identity_parts(book, [(1, ["a", "w"])], [(1, ["w", "a"])]), first)


class Sides(unittest.TestCase):
    """Promise 49."""

    def samples(self):
        """Return books and some of their sides, with words of few ranks."""
        chance = random.Random(49)
        books = [SIGNS, BITS, THREES] + [Book(2 + seed % 2, random_rows(seed, 2 + seed % 2, 2)) for seed in range(8)]
        for book in books:
            names = [name + mark for name in book.names for mark in ("", "'")]
            for _ in range(6):
                yield book, [(chance.randint(-9, 9), [chance.choice(names) for _ in range(chance.randint(0, 2))])
                             for _ in range(chance.randint(1, 4))]

    def test_side_table_has_the_entries_of_the_squares(self):
        for book, side in self.samples():
            table = side_table(book, side)
            assert_plain(self, table)
            for level in range(4 if book.base == 2 else 3):
                self.assertEqual(table.written(level), square_of_side(book, side, level))

    def test_known_ones_by_sides_by_products_and_by_plain_tables(self):
        for book, known in KNOWN:
            for side, other in known:
                self.assertEqual(side_table(book, side), side_table(book, other))
                self.assertEqual(self.by_products(book, side), side_table(book, other))
                self.assertEqual(self.by_products(book, other), side_table(book, side))

    def by_products(self, book, side):
        found = nothing(book.base)
        for number, word in side:
            whole = identity_of(book.base)
            for part in word:
                table = table_named(book, part[0])
                whole = product(whole, transposed(table) if part.endswith("'") else table)
            found = added(found, scaled(whole, number))
        return found

    def test_turned_names(self):
        for book in [SIGNS, BITS, THREES]:
            for name in book.names:
                self.assertEqual(side_table(book, [(1, [name + "'"])]), transposed(table_named(book, name)))
                self.assertEqual(side_table(book, [(1, [name])]), plain(table_named(book, name)))

    def test_another_sequence_of_terms_and_terms_that_are_moved(self):
        for book, side in self.samples():
            self.assertIsNone(identity_parts(book, side, side[::-1]))
            self.assertEqual(side_table(book, side), side_table(book, side[::-1]))
            moved = [(-number, word) for number, word in side[1:]]
            other = [(2, [book.names[0]])]
            self.assertEqual(identity_parts(book, side, other), identity_parts(book, side[:1], other + moved))
            self.assertEqual(identity_parts(book, side, other), parting(side_table(book, side), side_table(book, other)))

    def test_far_entries_of_the_ones_with_one_word(self):
        for name, inverse in [("s", "m"), ("s'", "m'")]:
            table = side_table(SIGNS, [(1, [name, inverse]), (3, ["d"])])
            with at_once():
                for row, column in spots_far(3, 2, 100):
                    self.assertEqual(table.entry(100, row, column), (1 + 3 * 2 ** 100) * (row == column))


class Rings(unittest.TestCase):
    """Promise 57: products of two rings that lead to one another by one block."""

    def test_rings(self):
        with at_once(60):
            for base in (2, 3):
                for many, others in itertools.product(range(1, 5), repeat=2):
                    if many * others <= 12:
                        self.check(base, many, others)

    def check(self, base, many, others):
        """Both rings are not 0 at one place of each level that is a multiple of their lengths alone."""
        spot = (base - 1, base - 1)
        rows = ring_rows(base, many, spot, 2, "abcd")
        other_rows = ring_rows(base, others, spot, 5, "wxyz")
        if many + others <= 6:
            book = Book(base, rows + other_rows)
            levels = range(1, many * others + 1)
            both = next(level for level in levels if level % many == 0 and level % others == 0)
            end = base ** both - 1
            side = [(1, ["a", "w"])]
            table = side_table(book, side)
            frame = [(10, [])]
            self.assertEqual(identity_parts(book, side + frame, frame), (0, 0, 0, 10))
            self.assertEqual(parting(table, nothing(base)), (0, 0, 0, 10))
            # Without level 0 they part at the first level at which both are not 0.
            start = Book(base, rows + other_rows + [("s", 1, zero_blocks(base))]) if many + others < 6 else None
            if start is not None:
                self.assertEqual(identity_parts(start, side, [(10, ["s"])]), (both, end, end, 10))
                once = scaled(table_named(start, "s"), 10)
                self.assertEqual(parting(table, once), (both, end, end, 10))
                self.assertIs(are_alike(table, once), False)
                self.assertIsNone(alike_from(table, once))
                self.assertEqual(last_level(once), 0)
            self.assertIsNone(last_level(table))
            self.assertEqual(nodes_of(table), [(level, base ** level - 1, base ** level - 1) for level in range(both)])
            self.assertEqual(rank_of(table), both)
            self.assertEqual(table.entry(both, end, end), 10)

    def test_rings_that_end(self):
        for base in (2, 3):
            ring = ring_rows(base, 3, (0, 0), 1, "abc")
            spot = chain_rows(base, [(0, 0)] * 2, [1] * 2, 7, "xyz")
            book = Book(base, ring + spot)
            # The ring, a step ahead, is not 0 at levels 2, 5, 8; the other table at level 2 alone.
            self.assertEqual(identity_parts(book, [(1, ["b", "x"])], []), (2, 0, 0, 7))
            table = side_table(book, [(1, ["b", "x"])])
            self.assertEqual((last_level(table), alike_from(table, nothing(base))), (2, 3))
            self.assertIsNone(identity_parts(book, [(1, ["a", "x"])], []))
            self.assertEqual(side_table(book, [(1, ["x", "c"])]), nothing(base))


if __name__ == "__main__":
    unittest.main()

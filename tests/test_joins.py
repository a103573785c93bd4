"""Promises 36 to 42, 47, 48, 50, 52, 53, 58 and 59: tables made of other tables."""

import inspect
import itertools
import random
import unittest

from blockbooks.areas import area_sum, total_at, trace_at
from blockbooks.books import Book
from blockbooks.ends import alike_from, last_level
from blockbooks.errors import InvalidNumber, InvalidPlace, UnlikeBases
from blockbooks.forms import nodes_of, plain, rank_of
from blockbooks.identities import identity_of, inverse_among
from blockbooks.joins import added, block_of, entrywise, framed, product, scaled, transposed
from blockbooks.parting import are_alike, classes, parting
from blockbooks.relations import mixture, relations
from blockbooks.rests import count_rest, first_rest, rests_of
from blockbooks.tables import Table, table_named
from tests.helper import (
    assert_error, assert_plain, at_once, blocks_of_table, book_of, chain_rows, combined, multiplied, near_levels, nothing,
    place_of, random_table, ring_rows, spot_table, spots_far, turned, zero_blocks,
)

FAR = [6, 33, 60, 100]


def samples(many=6):
    """Return tables of both bases: of well known books, always 0, of one place alone, and of all sorts."""
    found = [Table(book_of("bits"), [1, 2, 3, 4, 5]), Table(book_of("signs"), [3, -2, 1, 0]), nothing(2), nothing(3),
             Table(book_of("threes"), [1, -1, 2, 0, 4, -3]), Table(book_of("bits"), [1, 2, -1, -1, 0]),
             spot_table(2, [(1, 0), (0, 1)], -4), spot_table(3, [(2, 1), (0, 2)], 9)]
    for seed in range(many):
        found.append(random_table(seed, 2 + seed % 2, 1 + seed % 6))
        found.append(random_table(seed, 2 + seed % 2, 1 + seed % 6, sparse=True))
    return found


def small_samples():
    """Return tables of rank at most three."""
    bits, signs, threes = [book_of(kind) for kind in ("bits", "signs", "threes")]
    found = [table_named(bits, name) for name in "xrp"] + [table_named(signs, name) for name in "hs"]
    found += [table_named(threes, name) for name in "xs"] + [nothing(2), nothing(3), identity_of(2), identity_of(3)]
    found += [spot_table(2, [(1, 0)], 3), spot_table(3, [(0, 2), (2, 1)], -2), Table(bits, [1, 2, 3, 0, 0])]
    for seed in range(4):
        found.append(random_table(seed, 2 + seed % 2, 2 + seed // 2))
    return found


def pairs(tables):
    return [(one, other) for one, other in itertools.product(tables, tables) if one.book.base == other.book.base]


def unchanged(test, tables, call):
    """Check that a call changes none of its tables, and return what it returns."""
    before = [(table.book, table.shares) for table in tables]
    found = call(*tables)
    test.assertEqual([(table.book, table.shares) for table in tables], before)
    assert_plain(test, found)
    return found


class Interface(unittest.TestCase):

    def test_interface(self):
        for call, names in [
            (added, ["table", "other_table"]), (scaled, ["table", "number"]), (product, ["table", "other_table"]),
            (entrywise, ["table", "other_table"]), (transposed, ["table"]), (block_of, ["table", "row", "column"]),
            (framed, ["start", "blocks"]),
        ]:
            self.assertEqual(call.__module__, "blockbooks.joins")
            self.assertEqual(list(inspect.signature(call).parameters), names)

    def test_the_example(self):
        h, d, s, m = [table_named(book_of("signs"), name) for name in "hdsm"]
        found = [are_alike(product(s, m), identity_of(2)), product(h, s).written(1), entrywise(h, h).entry(5, 3, 7),
                 transposed(s).written(1), block_of(h, 1, 1).written(1), added(s, m).written(1), scaled(h, 0).shares,
                 framed(7, [[h, h], [h, s]]).written(1), framed(7, [[h, h], [h, s]]).entry(0, 0, 0)]
        self.assertEqual(found, [True, [[2, 1], [0, -1]], 1, [[1, 1], [0, 1]], [[-1, -1], [-1, 1]], [[2, 0], [0, 2]], [],
                                 [[1, 1], [1, 1]], 7])

    def test_by_name(self):
        s, m = [table_named(book_of("signs"), name) for name in "sm"]
        self.assertEqual(added(other_table=m, table=s), added(s, m))
        self.assertEqual(scaled(number=3, table=s), scaled(s, 3))
        self.assertEqual(product(other_table=s, table=transposed(s)), product(transposed(s), s))
        self.assertEqual(entrywise(other_table=s, table=m), entrywise(m, s))
        self.assertEqual(transposed(table=s), transposed(s))
        self.assertEqual(block_of(column=0, row=1, table=m), block_of(m, 1, 0))
        self.assertEqual(framed(blocks=[[s, m], [m, s]], start=2), framed(2, [[s, m], [m, s]]))


class Sums(unittest.TestCase):
    """Promise 36."""

    def test_near_and_far(self):
        with at_once(60):
            for one, other in pairs(samples(4)):
                found = unchanged(self, [one, other], added)
                for level in near_levels(one.book.base):
                    self.assertEqual(found.written(level), combined([one.written(level), other.written(level)], [1, 1]))
                for level in FAR:
                    for spot in spots_far(level, one.book.base, level, 1):
                        self.assertEqual(found.entry(level, *spot), one.entry(level, *spot) + other.entry(level, *spot))

    def test_multiples(self):
        with at_once(60):
            for table in samples():
                for number in [0, 1, -1, 2, -7, 10 ** 20, -10 ** 20]:
                    found = unchanged(self, [table], lambda table: scaled(table, number))
                    for level in near_levels(table.book.base):
                        self.assertEqual(found.written(level), combined([table.written(level)], [number]))
                    for spot in spots_far(number, table.book.base, 60):
                        self.assertEqual(found.entry(60, *spot), number * table.entry(60, *spot))

    def test_0_and_1(self):
        for table in samples():
            self.assertEqual(scaled(table, 0), nothing(table.book.base))
            self.assertEqual(scaled(table, 1), plain(table))
            self.assertEqual(added(table, nothing(table.book.base)), plain(table))
            self.assertEqual(added(table, scaled(table, -1)), nothing(table.book.base))
            self.assertEqual(added(table, table), scaled(table, 2))


class Products(unittest.TestCase):
    """Promise 37."""

    def test_near(self):
        with at_once(60):
            for one, other in pairs(small_samples()):
                found = unchanged(self, [one, other], product)
                for level in near_levels(one.book.base):
                    self.assertEqual(found.written(level), multiplied(one.written(level), other.written(level)))

    def test_the_identity_and_nothing(self):
        for table in small_samples():
            base = table.book.base
            self.assertEqual(product(table, identity_of(base)), plain(table))
            self.assertEqual(product(identity_of(base), table), plain(table))
            self.assertEqual(product(table, nothing(base)), nothing(base))
            self.assertEqual(product(nothing(base), table), nothing(base))

    def test_far(self):
        h, d, s, m = [table_named(book_of("signs"), name) for name in "hdsm"]
        rows, columns, power = [table_named(book_of("bits"), name) for name in "rcp"]
        self.assertEqual(product(h, h), plain(d))
        with at_once():
            for level in FAR:
                side = 2 ** level
                for row, column in spots_far(level, 2, level):
                    # Rows times columns: every term is row times column.
                    self.assertEqual(product(rows, columns).entry(level, row, column), side * row * column)
                    squares = side * (side - 1) * (2 * side - 1) // 6
                    self.assertEqual(product(columns, rows).entry(level, row, column), squares)
                    self.assertEqual(product(power, rows).entry(level, row, column), side * side * (side - 1) // 2)
                    # Parts of both: s times s turned has 2 to the number of ones in both.
                    ones = bin(row & column).count("1")
                    self.assertEqual(product(s, transposed(s)).entry(level, row, column), 2 ** ones)

    def test_rank_three_by_blocks_at_far_levels(self):
        # A block of a product is the sum of the products of the blocks, so far entries follow from near ones.
        with at_once(60):
            for seed in range(4):
                base = 2 + seed % 2
                one, other = random_table(seed, base, 3), random_table(60 + seed, base, 3)
                whole = product(one, other)
                self.assertEqual(rank_of(whole), 9)
                blocks, others = blocks_of_table(one), blocks_of_table(other)
                for i, j in itertools.product(range(base), repeat=2):
                    terms = [product(blocks[i][k], others[k][j]) for k in range(base)]
                    for row, column in spots_far(seed, base, 59, 1):
                        far = whole.entry(60, i * base ** 59 + row, j * base ** 59 + column)
                        self.assertEqual(far, sum(term.entry(59, row, column) for term in terms))


class Entrywise(unittest.TestCase):
    """Promise 48 (of entrywise)."""

    def test_near_and_far(self):
        with at_once(60):
            for one, other in pairs(small_samples()):
                found = unchanged(self, [one, other], entrywise)
                for level in near_levels(one.book.base):
                    wanted = [[a * b for a, b in zip(*lines)] for lines in zip(one.written(level), other.written(level))]
                    self.assertEqual(found.written(level), wanted)
                for level in FAR:
                    for spot in spots_far(level, one.book.base, level, 2):
                        self.assertEqual(found.entry(level, *spot), one.entry(level, *spot) * other.entry(level, *spot))

    def test_signs(self):
        h = table_named(book_of("signs"), "h")
        ones = Book(2, [("a", 1, [[[(1, "a")], [(1, "a")]], [[(1, "a")], [(1, "a")]]])])
        self.assertEqual(entrywise(h, h), Table(ones, [1]))


class Turned(unittest.TestCase):
    """Promise 38."""

    def test_near_and_far(self):
        for table in samples():
            found = unchanged(self, [table], transposed)
            for level in near_levels(table.book.base):
                self.assertEqual(found.written(level), turned(table.written(level)))
            with at_once():
                for level in FAR:
                    for row, column in spots_far(level, table.book.base, level):
                        self.assertEqual(found.entry(level, row, column), table.entry(level, column, row))

    def test_twice(self):
        for table in samples():
            self.assertEqual(transposed(transposed(table)), plain(table))


class Blocks(unittest.TestCase):
    """Promise 39."""

    def test_near_and_far(self):
        for table in samples():
            base = table.book.base
            for i, j in itertools.product(range(base), repeat=2):
                found = unchanged(self, [table], lambda table: block_of(table, i, j))
                for level in near_levels(base)[:-1]:
                    side = base ** level
                    lines = table.written(level + 1)[i * side:(i + 1) * side]
                    self.assertEqual(found.written(level), [line[j * side:(j + 1) * side] for line in lines])
                for level in FAR[:-1]:
                    for row, column in spots_far(level, base, level, 1):
                        far = table.entry(level + 1, i * base ** level + row, j * base ** level + column)
                        self.assertEqual(found.entry(level, row, column), far)

    def test_blocks_of_blocks(self):
        for table in samples(2):
            base = table.book.base
            for i, j, k, l in itertools.product(range(base), repeat=4):
                found = block_of(block_of(table, i, j), k, l)
                self.assertEqual(found, plain(blocks_of_table(blocks_of_table(table)[i][j])[k][l]))
                self.assertEqual(found.entry(0, 0, 0), table.entry(2, i * base + k, j * base + l))


class Frames(unittest.TestCase):
    """Promise 40."""

    def grids(self):
        for kind in ["bits", "signs", "threes"]:
            book = book_of(kind)
            names = itertools.cycle(book.names)
            yield [[table_named(book, next(names)) for _ in range(book.base)] for _ in range(book.base)]
        for base in (2, 3):
            yield [[random_table(7 * i + j, base, 2) for j in range(base)] for i in range(base)]
            yield [[identity_of(base), spot_table(base, [(1, 0)])] + [nothing(base)] * (base - 2) for _ in range(base)]
            table = random_table(5, base, 2)
            yield [[table] * base] * base

    def test_near_and_far(self):
        for blocks in self.grids():
            base = len(blocks)
            lists = [list(line) for line in blocks]
            for start in [0, 7, -10 ** 30]:
                found = framed(start, blocks)
                assert_plain(self, found)
                self.assertEqual(found.entry(0, 0, 0), start)
                for level in near_levels(base)[:-1]:
                    wanted = []
                    for line in blocks:
                        squares = [table.written(level) for table in line]
                        wanted += [[entry for square in squares for entry in square[row]] for row in range(base ** level)]
                    self.assertEqual(found.written(level + 1), wanted)
                with at_once():
                    for level, (i, j) in itertools.product(FAR[:-1], itertools.product(range(base), repeat=2)):
                        for row, column in spots_far(level, base, level, 1):
                            far = found.entry(level + 1, i * base ** level + row, j * base ** level + column)
                            self.assertEqual(far, blocks[i][j].entry(level, row, column))
            self.assertTrue(all(one is other for line, other_line in zip(blocks, lists) for one, other in zip(line, other_line)))
            self.assertEqual([len(line) for line in blocks], [base] * base)

    def test_framed_by_its_own_blocks(self):
        for table in samples():
            if rank_of(table) <= 2:
                for blocks in [blocks_of_table(table),
                               [[block_of(table, i, j) for j in range(table.book.base)] for i in range(table.book.base)]]:
                    self.assertEqual(framed(table.entry(0, 0, 0), blocks), plain(table))

    def test_nine_books_come_soon(self):
        with at_once():
            blocks = [[random_table(3 * i + j, 3, 2) for j in range(3)] for i in range(3)]
            self.assertEqual(rank_of(framed(5, blocks)), 19)


class Together(unittest.TestCase):
    """Promise 41."""

    def test_products_of_sums(self):
        with at_once(60):
            for seed in range(6):
                base = 2 + seed % 2
                tables = [random_table(10 * seed + at, base, 1, sparse=at == 2) for at in range(2)]
                tables.append(spot_table(base, [(1, 0)], 3) if seed % 2 else identity_of(base))
                for one, two, three in itertools.permutations(tables):
                    both = added(two, three)
                    if rank_of(both) <= 3:
                        self.assertEqual(product(one, both), added(product(one, two), product(one, three)))
                        self.assertEqual(product(both, one), added(product(two, one), product(three, one)))

    def test_three_tables(self):
        for names in itertools.product("hdsm", repeat=3):
            one, two, three = [table_named(book_of("signs"), name) for name in names]
            self.assertEqual(product(product(one, two), three), product(one, product(two, three)))
        spots = [spot_table(3, [(0, 2)]), spot_table(3, [(2, 1)]), identity_of(3)]
        for one, two, three in itertools.permutations(spots):
            self.assertEqual(product(product(one, two), three), product(one, product(two, three)))

    def test_turned_products(self):
        for one, other in pairs(small_samples()):
            self.assertEqual(transposed(product(one, other)), product(transposed(other), transposed(one)))

    def test_blocks_of_joins(self):
        for one, other in pairs(small_samples())[::3]:
            base = one.book.base
            blocks, others = blocks_of_table(one), blocks_of_table(other)
            for i, j in itertools.product(range(base), repeat=2):
                terms = [product(blocks[i][k], others[k][j]) for k in range(base)]
                wanted = nothing(base)
                for term in terms:
                    wanted = added(wanted, term)
                self.assertEqual(block_of(product(one, other), i, j), wanted)
                self.assertEqual(block_of(added(one, other), i, j), added(blocks[i][j], others[i][j]))
                self.assertEqual(block_of(entrywise(one, other), i, j), entrywise(blocks[i][j], others[i][j]))

    def test_two_tables_of_one_book_by_turns(self):
        book = book_of("bits")
        xor, both = table_named(book, "x"), table_named(book, "n")
        for _ in range(3):
            for one, other in [(xor, both), (both, xor)]:
                anew = [table_named(book_of("bits"), "x" if table is xor else "n") for table in (one, other)]
                for call in [added, product, entrywise]:
                    self.assertEqual(call(one, other), call(*anew))
                self.assertEqual(transposed(one), transposed(anew[0]))
                self.assertEqual(block_of(other, 1, 1), block_of(anew[1], 1, 1))


class Errors(unittest.TestCase):
    """Promise 42."""

    def test_bases(self):
        for two in [nothing(2), table_named(book_of("bits"), "x")]:
            for three in [nothing(3), table_named(book_of("threes"), "s")]:
                for call in [added, product, entrywise]:
                    assert_error(self, UnlikeBases, (2, 3), call, two, three)
                    assert_error(self, UnlikeBases, (3, 2), call, table=three, other_table=two)

    def test_blocks(self):
        for table in samples(1):
            base = table.book.base
            for row, column in [(-1, 0), (0, -1), (base, 0), (0, base), (base, base), (-1, base), (10 ** 30, 1), (1, -10 ** 30)]:
                assert_error(self, InvalidPlace, (row, column), block_of, table, row, column)
                assert_error(self, InvalidPlace, (row, column), block_of, column=column, table=table, row=row)

    def test_frames(self):
        two, three = identity_of(2), nothing(3)
        for blocks, kind, value in [
            ([], InvalidNumber, 0),
            ([[two, two]], InvalidNumber, 1),
            ([[two]], InvalidNumber, 1),
            ([[two, two]] * 3, InvalidNumber, 3),
            ([[three] * 3] * 2, InvalidNumber, 2),
            ([[two, three], [two, two], []], InvalidNumber, 3),
            ([[two], [two, two]], InvalidNumber, 1),
            ([[two, two], []], InvalidNumber, 0),
            ([[two, two, three], [two]], InvalidNumber, 3),
            ([[two, three], [two, two, two, two]], InvalidNumber, 4),
            ([[three] * 3, [three] * 2, [three] * 4], InvalidNumber, 2),
            ([[two, three], [two, two]], UnlikeBases, (2, 3)),
            ([[two, two], [three, two]], UnlikeBases, (2, 3)),
            ([[three, three, three], [three, three, two], [two] * 3], UnlikeBases, (3, 2)),
            ([[three, two], [two, two]], InvalidNumber, 2),
        ]:
            lists = [list(line) for line in blocks]
            assert_error(self, kind, value, framed, 7, blocks)
            assert_error(self, kind, value, framed, blocks=blocks, start=0)
            self.assertEqual([len(line) for line in blocks], [len(line) for line in lists])
            self.assertTrue(all(a is b for line, other in zip(blocks, lists) for a, b in zip(line, other)))


class Chains(unittest.TestCase):
    """Promise 47: far entries of chains of joins."""

    def test_chains(self):
        with at_once(60):
            for seed in range(10):
                base = 2 + seed % 2
                chance = random.Random(seed)
                one, other = random_table(seed, base, 2), random_table(20 + seed, base, 1, sparse=True)
                factor, factor_of_other = chance.randint(-10 ** 20, 10 ** 20), chance.choice([1, -9, 10 ** 20])
                both = added(scaled(one, factor), scaled(other, factor_of_other))
                for level in [3, 20, 60]:
                    for row, column in spots_far(seed + level, base, level, 2):
                        wanted = factor * one.entry(level, row, column) + factor_of_other * other.entry(level, row, column)
                        self.assertEqual(both.entry(level, row, column), wanted)
                        self.assertEqual(transposed(both).entry(level, column, row), wanted)
                        squared = entrywise(both, transposed(other))
                        self.assertEqual(squared.entry(level, row, column), wanted * other.entry(level, column, row))
                        frame = framed(factor, [[scaled(other, 3)] * base] * (base - 1) + [[other] * base])
                        self.assertEqual(frame.entry(level + 1, row, column), 3 * other.entry(level, row, column))
                        inner = block_of(block_of(both, 0, 1), 1, 0)
                        side = base ** level
                        far = both.entry(level + 2, side + row, side * base + column)
                        self.assertEqual(inner.entry(level, row, column), far)


class PlainTables(unittest.TestCase):
    """Promise 50."""

    def test_plain_tables(self):
        for table in samples():
            form = plain(table)
            self.assertTrue(are_alike(form, table))
            self.assertEqual(plain(form), form)
            self.assertEqual(added(form, nothing(form.book.base)), form)
            nodes = nodes_of(table)
            for at, (name, node) in enumerate(zip(form.book.names, nodes)):
                named = table_named(form.book, name)
                self.assertEqual(parting(named, nothing(form.book.base))[:3], node)
                self.assertGreater(named.entry(*node), 0)
                for above in form.book.names[:at]:
                    self.assertIn(table_named(form.book, above).entry(*node), range(named.entry(*node)))

    def test_by_turns(self):
        book = book_of("threes")
        tables = [table_named(book, name) for name in book.names]
        wanted = [plain(table_named(book_of("threes"), name)) for name in book.names]
        for order in [range(6), range(5, -1, -1), [3, 0, 3, 5, 1, 1]]:
            for at in order:
                self.assertEqual(plain(tables[at]), wanted[at])


class Mixtures(unittest.TestCase):
    """Promise 52."""

    def test_mixtures_and_relations_of_joins(self):
        for seed in range(12):
            base = 2 + seed % 2
            one, other = random_table(seed, base, 2, sparse=seed % 3 == 0), random_table(50 + seed, base, 3)
            if relations([one, other]) == []:
                both = added(scaled(one, 6), scaled(other, -5))
                self.assertEqual(mixture(both, [one, other]), [6, -5])
                self.assertEqual(relations([both, one, other]), [[1, -6, 5]])
                self.assertEqual(relations([transposed(both), transposed(one), transposed(other)]), [[1, -6, 5]])
                for i, j in itertools.product(range(base), repeat=2):
                    blocks = [block_of(table, i, j) for table in (both, one, other)]
                    found = mixture(blocks[0], blocks[1:])
                    again = added(scaled(blocks[1], found[0]), scaled(blocks[2], found[1]))
                    self.assertEqual(again, blocks[0])

    def test_products_by_inverses(self):
        s, m, h = [table_named(book_of("signs"), name) for name in "smh"]
        for table, tables in [(s, [m, h]), (m, [h, s]), (transposed(s), [h, transposed(m)]), (s, [added(m, h), h])]:
            found = inverse_among(table, tables)
            inverse = added(scaled(tables[0], found[0]), scaled(tables[1], found[1]))
            self.assertEqual(product(table, inverse), identity_of(2))
            self.assertEqual(product(inverse, table), identity_of(2))


class Rectangles(unittest.TestCase):
    """Promise 53."""

    def test_rectangles(self):
        chance = random.Random(53)
        with at_once(60):
            for one, other in pairs(samples(2))[::2]:
                base = one.book.base
                both, other_way = added(one, other), transposed(one)
                for level in [1, 3, 30, 99]:
                    last = base ** level - 1
                    top, bottom = sorted(chance.randint(0, last) for _ in range(2))
                    left, right = sorted(chance.randint(0, last) for _ in range(2))
                    corners = (top, left), (bottom, right)
                    found = area_sum(one, level, *corners)
                    self.assertEqual(area_sum(other_way, level, (left, top), (right, bottom)), found)
                    self.assertEqual(area_sum(both, level, *corners), found + area_sum(other, level, *corners))
                    i, j = chance.randrange(base), chance.randrange(base)
                    side = base ** level
                    moved = (i * side + top, j * side + left), (i * side + bottom, j * side + right)
                    self.assertEqual(area_sum(one, level + 1, *moved), area_sum(block_of(one, i, j), level, *corners))


class CutAndFramed(unittest.TestCase):
    """Promise 58."""

    def test_cut_and_framed(self):
        for table in samples(4):
            base = table.book.base
            if rank_of(table) <= 2:
                blocks = [[block_of(table, i, j) for j in range(base)] for i in range(base)]
                start = table.entry(0, 0, 0)
                other = framed(start + 5, blocks)
                self.assertEqual(parting(other, table), (0, 0, 0, 5))
                self.assertEqual(alike_from(other, table), 1)
                self.assertEqual(framed(start, blocks), plain(table))
                with at_once():
                    for level in [1, 2, 40, 100]:
                        totals = [total_at(block, level - 1) for line in blocks for block in line]
                        self.assertEqual(total_at(other, level), sum(totals))
                        self.assertEqual(trace_at(other, level), sum(trace_at(blocks[i][i], level - 1) for i in range(base)))
                        side = base ** (level - 1)
                        areas = [area_sum(block, level - 1, (0, 0), (side - 1, side // 2)) for line in blocks for block in line]
                        whole = [area_sum(other, level, (i * side, j * side), (i * side + side - 1, j * side + side // 2))
                                 for i in range(base) for j in range(base)]
                        self.assertEqual(whole, areas)
                        counts = [count_rest(block, 2, 1, level - 1) for line in blocks for block in line]
                        self.assertEqual(count_rest(other, 2, 1, level), sum(counts))


class OnePlaceAlone(unittest.TestCase):
    """Promise 59."""

    def test_all_functions_tell_the_place(self):
        chance = random.Random(59)
        for at in range(24):
            base, deep = 2 + at % 2, at % 5
            spots = [(chance.randrange(base), chance.randrange(base)) for _ in range(deep)]
            number = chance.choice([1, -1, 6, -99])
            table = spot_table(base, spots, number)
            level, row, column = place_of(base, spots)
            zero = nothing(base)
            self.assertEqual(table.entry(level, row, column), number)
            for other in range(6):
                self.assertEqual(total_at(table, other), number if other == level else 0)
                self.assertEqual(trace_at(table, other), number if other == level and row == column else 0)
                last = base ** other - 1
                self.assertEqual(area_sum(table, other, (0, 0), (last, last)), number if other == level else 0)
            self.assertEqual(area_sum(table, level, (row, column), (row, column)), number)
            if row > 0:
                self.assertEqual(area_sum(table, level, (0, 0), (row - 1, base ** level - 1)), 0)
            self.assertEqual(last_level(table), level)
            self.assertEqual(alike_from(table, zero), level + 1)
            self.assertEqual(parting(table, zero), (level, row, column, number))
            self.assertEqual(parting(zero, table), (level, row, column, -number))
            self.assertEqual(nodes_of(table), [place_of(base, spots[deep - many:]) for many in range(deep + 1)])
            self.assertEqual(plain(table).shares, [0] * deep + [1 if number > 0 else -1])
            self.assertEqual(classes([zero, table, scaled(table, 1)]), [[0], [1, 2]])
            if 2 ** (deep + 1) <= 1000 and number % 2 == 1:
                self.assertEqual(first_rest(table, 2, 1), (level, row, column))
                self.assertEqual(rests_of(table, 2), [0, 1])
                self.assertEqual([count_rest(table, 2, 1, other) for other in range(6)], [int(other == level) for other in range(6)])
                zero_first = (0, 0, 0) if deep else (1, 0, 0)
                self.assertEqual(first_rest(table, 2, 0), zero_first)


class ManyNamed(unittest.TestCase):
    """Tables of rings and of books without blocks, joined."""

    def test_rings(self):
        for base in (2, 3):
            tables = [table_named(Book(base, ring_rows(base, many, (base - 1, 0))), "a") for many in range(1, 4)]
            for one, other in itertools.product(tables, tables):
                found = entrywise(one, other)
                for level in range(1, 8):
                    row = base ** level - 1
                    self.assertEqual(found.entry(level, row, 0), one.entry(level, row, 0) * other.entry(level, row, 0))

    def test_starts_alone(self):
        for base in (2, 3):
            table = table_named(Book(base, [("a", 3, zero_blocks(base)), ("b", 5, zero_blocks(base))]), "b")
            self.assertEqual(added(table, table), Table(Book(base, [("a", 10, zero_blocks(base))]), [1]))
            self.assertEqual(product(table, table), Table(Book(base, [("a", 25, zero_blocks(base))]), [1]))
            self.assertEqual(block_of(table, 0, 1), nothing(base))
            self.assertEqual(framed(4, [[nothing(base)] * base] * base), Table(Book(base, [("a", 4, zero_blocks(base))]), [1]))
            chain = table_named(Book(base, chain_rows(base, [(1, 1), (0, 1)], [2, 3], 5)), "a")
            self.assertEqual(block_of(block_of(chain, 1, 1), 0, 1), scaled(framed(1, [[nothing(base)] * base] * base), 30))


if __name__ == "__main__":
    unittest.main()

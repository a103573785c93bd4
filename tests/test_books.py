"""Promises 2, 3 and 4: books, their check and their equality."""

import copy
import inspect
import unittest
from unittest import mock

from blockbooks.books import Book
from blockbooks.errors import InvalidBase, InvalidBlocks, InvalidName
from blockbooks.tables import Table, table_named
from tests.helper import ROWS_OF_BITS, ROWS_OF_SIGNS, ROWS_OF_THREES, assert_equality, random_rows, zero_blocks


def all_rows():
    yield 2, ROWS_OF_BITS
    yield 2, ROWS_OF_SIGNS
    yield 3, ROWS_OF_THREES
    yield 2, []
    yield 3, []
    for seed in range(12):
        yield 2 + seed % 2, random_rows(seed, 2 + seed % 2, 1 + seed % 6)


class What(unittest.TestCase):
    """Promise 2."""

    def test_interface(self):
        self.assertEqual(Book.__module__, "blockbooks.books")
        self.assertEqual(list(inspect.signature(Book).parameters), ["base", "named"])
        self.assertIsInstance(vars(Book)["base"], property)
        self.assertIsInstance(vars(Book)["names"], property)
        self.assertIn("start_of", vars(Book))
        self.assertIn("blocks_of", vars(Book))

    def test_all_is_told_as_it_was_passed(self):
        for base, rows in all_rows():
            book = Book(base, copy.deepcopy(rows))
            self.assertEqual(book.base, base)
            self.assertEqual(book.names, [name for name, _, _ in rows])
            for name, start, blocks in rows:
                self.assertEqual(book.start_of(name), start)
                self.assertEqual(book.blocks_of(name), blocks)

    def test_kinds_of_what_is_told(self):
        book = Book(2, ROWS_OF_BITS)
        self.assertIs(type(book.base), int)
        self.assertIs(type(book.names), list)
        self.assertIs(type(book.start_of("p")), int)
        blocks = book.blocks_of("x")
        self.assertIs(type(blocks), list)
        self.assertEqual({type(line) for line in blocks}, {list})
        self.assertEqual({type(block) for line in blocks for block in line}, {list})
        self.assertEqual({type(term) for line in blocks for block in line for term in block}, {tuple})

    def test_terms_stay_as_they_are(self):
        # Neither a coefficient 0 nor a name that occurs twice is tidied away, nor are terms sorted.
        blocks = [[[(0, "a")], [(2, "b"), (3, "a"), (-2, "b")]], [[], [(1, "a"), (1, "a")]]]
        book = Book(2, [("b", 0, zero_blocks(2)), ("a", -5, blocks)])
        self.assertEqual(book.names, ["b", "a"])
        self.assertEqual(book.blocks_of("a"), blocks)
        self.assertEqual(book.blocks_of("b"), [[[], []], [[], []]])
        self.assertEqual(book.start_of("a"), -5)

    def test_by_position_and_by_name(self):
        book = Book(named=ROWS_OF_SIGNS, base=2)
        self.assertEqual(book, Book(2, ROWS_OF_SIGNS))
        self.assertEqual(book, Book(2, named=ROWS_OF_SIGNS))
        self.assertEqual(book.start_of(name="h"), 1)
        self.assertEqual(book.blocks_of(name="h"), ROWS_OF_SIGNS[0][2])

    def test_told_lists_are_new_at_all_depths(self):
        book = Book(2, ROWS_OF_BITS)
        self.assertIsNot(book.names, book.names)
        first, second = book.blocks_of("x"), book.blocks_of("x")
        self.assertIsNot(first, second)
        for i in range(2):
            self.assertIsNot(first[i], second[i])
            for j in range(2):
                self.assertIsNot(first[i][j], second[i][j])

    def test_changed_told_lists_do_not_change_the_book(self):
        book, same = Book(2, ROWS_OF_BITS), Book(2, ROWS_OF_BITS)
        book.names.append("q")
        book.names[0] = "q"
        book.blocks_of("x")[0][1].append((5, "p"))
        book.blocks_of("x")[0][1][0] = (5, "p")
        book.blocks_of("x")[0].pop()
        book.blocks_of("x").clear()
        self.assert_unchanged(book, same)

    def test_changed_passed_lists_do_not_change_the_book(self):
        changes = [
            lambda rows: rows.append(("q", 0, zero_blocks(2))),
            lambda rows: rows.clear(),
            lambda rows: rows.reverse(),
            lambda rows: rows.__setitem__(0, ("q", 3, zero_blocks(2))),
            lambda rows: rows[0][2].clear(),
            lambda rows: rows[0][2].reverse(),
            lambda rows: rows[0][2][0].clear(),
            lambda rows: rows[0][2][0].reverse(),
            lambda rows: rows[0][2][0][1].clear(),
            lambda rows: rows[0][2][0][1].append((7, "p")),
            lambda rows: rows[0][2][0][1].__setitem__(0, (7, "p")),
        ]
        for change in changes:
            rows = copy.deepcopy(ROWS_OF_BITS)
            book = Book(2, rows)
            change(rows)
            self.assertNotEqual(rows, ROWS_OF_BITS)
            self.assert_unchanged(book, Book(2, ROWS_OF_BITS))

    def assert_unchanged(self, book, same):
        self.assertEqual(book, same)
        self.assertEqual(book.base, 2)
        self.assertEqual(book.names, [name for name, _, _ in ROWS_OF_BITS])
        for name, start, blocks in ROWS_OF_BITS:
            self.assertEqual(book.start_of(name), start)
            self.assertEqual(book.blocks_of(name), blocks)
        self.assertEqual(table_named(book, "x").written(2), table_named(same, "x").written(2))
        self.assertEqual(table_named(book, "x").entry(3, 5, 3), 6)

    def test_one_list_that_is_passed_several_times(self):
        block = [(1, "a")]
        line = [block, block]
        book = Book(2, [("a", 1, [line, line])])
        blocks = book.blocks_of("a")
        blocks[0][0].append((2, "a"))
        self.assertEqual(blocks[0][1], [(1, "a")])
        self.assertEqual(blocks[1], [[(1, "a")], [(1, "a")]])

    def test_arguments_are_not_modified(self):
        for base, rows in all_rows():
            passed = copy.deepcopy(rows)
            book = Book(base, passed)
            self.assertEqual(passed, rows)
            for name in book.names:
                table_named(book, name).written(2)
            self.assertEqual(passed, rows)


class Check(unittest.TestCase):
    """Promise 3."""

    def assert_raises(self, kind, value, base, named):
        before = copy.deepcopy(named)
        with self.assertRaises(kind) as caught:
            Book(base, named)
        self.assertIs(type(caught.exception), kind)
        self.assertEqual(caught.exception.value, value)
        self.assertEqual(named, before)

    def test_bases(self):
        for base in [0, 1, 4, 5, -1, -2, -3, 10 ** 30, -10 ** 30]:
            self.assert_raises(InvalidBase, base, base, [])
            self.assert_raises(InvalidBase, base, base, copy.deepcopy(ROWS_OF_BITS))
        for base in [2, 3]:
            self.assertEqual(Book(base, [("a", 0, zero_blocks(base))]).base, base)

    def test_names_that_are_not_a_letter(self):
        bad = ["", "A", "Z", "aa", "ab", "abc", "`", "{", "1", " ", "_", "a ", " a", "'", "a'", "-", "\u00e9", "\u00aa"]
        for name in bad:
            self.assert_raises(InvalidName, name, 2, [(name, 0, zero_blocks(2))])
            self.assert_raises(InvalidName, name, 3, [("a", 0, zero_blocks(3)), (name, 0, zero_blocks(3))])

    def test_all_letters_are_names(self):
        for name in "abcdefghijklmnopqrstuvwxyz":
            self.assertEqual(Book(2, [(name, 0, zero_blocks(2))]).names, [name])

    def test_names_that_occurred_before(self):
        self.assert_raises(InvalidName, "a", 2, [("a", 0, zero_blocks(2)), ("a", 0, zero_blocks(2))])
        named = [(name, 0, zero_blocks(2)) for name in "abcdbc"]
        self.assert_raises(InvalidName, "b", 2, named)

    def test_first_wrong_name(self):
        for names, wrong in [(["a", "a", "B"], "a"), (["a", "B", "a"], "B"), (["B", "B"], "B"), (["b", "", "A"], ""),
                             (["a", "b", "c", "c", "b"], "c"), (["ab", "a", "a"], "ab")]:
            self.assert_raises(InvalidName, wrong, 2, [(name, 0, zero_blocks(2)) for name in names])

    def test_blocks_of_a_wrong_form(self):
        for base in (2, 3):
            for lists in range(6):
                for many in range(6):
                    blocks = [[[] for _ in range(many)] for _ in range(lists)]
                    if lists != base or many != base:
                        self.assert_raises(InvalidBlocks, "a", base, [("a", 0, blocks)])
                    else:
                        self.assertEqual(Book(base, [("a", 0, blocks)]).blocks_of("a"), blocks)

    def test_a_single_list_of_blocks_of_a_wrong_form(self):
        for base in (2, 3):
            for at in range(base):
                for many in [many for many in range(5) if many != base]:
                    blocks = zero_blocks(base)
                    blocks[at] = [[] for _ in range(many)]
                    self.assert_raises(InvalidBlocks, "q", base, [("q", 1, blocks)])

    def test_references_to_names_that_there_are_not(self):
        for base in (2, 3):
            for i in range(base):
                for j in range(base):
                    for name in ["b", "", "A", "aa", "z"]:
                        for coefficient in [1, 0, -3]:
                            blocks = zero_blocks(base)
                            blocks[i][j] = [(1, "a"), (coefficient, name)]
                            self.assert_raises(InvalidBlocks, "a", base, [("a", 1, blocks)])

    def test_references_to_later_and_earlier_names(self):
        book = Book(2, [("a", 1, [[[(1, "b")], []], [[], []]]), ("b", 2, [[[(1, "a"), (1, "b")], []], [[], []]])])
        self.assertEqual(book.blocks_of("a")[0][0], [(1, "b")])

    def test_first_table_with_wrong_blocks(self):
        unknown = [[[(1, "z")], []], [[], []]]
        few = [[[], []]]
        good = zero_blocks(2)
        for first, second, third, wrong in [
            (good, unknown, few, "b"), (good, few, unknown, "b"), (unknown, few, good, "a"), (few, unknown, good, "a"),
            (good, good, unknown, "c"), (good, good, few, "c"), (unknown, unknown, unknown, "a"), (few, few, few, "a"),
        ]:
            self.assert_raises(InvalidBlocks, wrong, 2, [("a", 0, first), ("b", 0, second), ("c", 0, third)])
            self.assert_raises(InvalidBlocks, wrong, 2,
                               [("a", 0, first), ("b", 0, second), ("c", 0, third), ("d", 0, few)])

    def test_first_is_by_the_sequence_and_not_by_the_alphabet(self):
        self.assert_raises(InvalidBlocks, "z", 2, [("z", 0, []), ("a", 0, [])])

    def test_base_comes_before_names_and_blocks(self):
        self.assert_raises(InvalidBase, 4, 4, [("A", 0, []), ("A", 0, [[[(1, "q")]]])])
        self.assert_raises(InvalidBase, 0, 0, [("a", 0, [])])
        self.assert_raises(InvalidBase, 1, 1, [("a", 0, [[[(1, "q")]]])])

    def test_names_of_all_tables_come_before_blocks_of_all_tables(self):
        self.assert_raises(InvalidName, "A", 2, [("a", 0, []), ("b", 0, [[[(1, "q")]]]), ("A", 0, [])])
        self.assert_raises(InvalidName, "a", 3, [("a", 0, [[[(1, "q")]]]), ("a", 0, zero_blocks(3))])
        self.assert_raises(InvalidName, "", 2, [("", 0, [])])

    def test_blocks_of_the_other_base(self):
        self.assert_raises(InvalidBlocks, "x", 3, copy.deepcopy(ROWS_OF_BITS))
        self.assert_raises(InvalidBlocks, "r", 2, copy.deepcopy(ROWS_OF_THREES))

    def test_books_without_named_tables(self):
        for base in (2, 3):
            book = Book(base, [])
            self.assertEqual([book.base, book.names], [base, []])


class Equality(unittest.TestCase):
    """Promise 4."""

    def test_equal_books(self):
        for base, rows in all_rows():
            assert_equality(self, Book(base, copy.deepcopy(rows)), Book(base, copy.deepcopy(rows)), True)
        book = Book(2, ROWS_OF_BITS)
        assert_equality(self, book, book, True)

    def test_books_of_different_samples(self):
        made = [Book(base, rows) for base, rows in all_rows()]
        for at, book in enumerate(made):
            for other in made[:at]:
                assert_equality(self, book, other, False)

    def test_unlike_bases(self):
        assert_equality(self, Book(2, []), Book(3, []), False)

    def test_unlike_in_one_thing(self):
        terms = [(1, "a"), (2, "b")]
        named = [("a", 1, [[terms, []], [[], []]]), ("b", 2, zero_blocks(2))]
        book = Book(2, named)
        others = [
            [("b", 2, zero_blocks(2)), ("a", 1, [[terms, []], [[], []]])],
            [("a", 2, [[terms, []], [[], []]]), ("b", 2, zero_blocks(2))],
            [("a", 1, [[terms, []], [[], []]]), ("b", 3, zero_blocks(2))],
            [("a", 1, [[[(2, "b"), (1, "a")], []], [[], []]]), ("b", 2, zero_blocks(2))],
            [("a", 1, [[[(1, "a"), (3, "b")], []], [[], []]]), ("b", 2, zero_blocks(2))],
            [("a", 1, [[[(1, "a"), (2, "a")], []], [[], []]]), ("b", 2, zero_blocks(2))],
            [("a", 1, [[[(1, "a"), (1, "b"), (1, "b")], []], [[], []]]), ("b", 2, zero_blocks(2))],
            [("a", 1, [[terms, [(0, "a")]], [[], []]]), ("b", 2, zero_blocks(2))],
            [("a", 1, [[[], terms], [[], []]]), ("b", 2, zero_blocks(2))],
            [("a", 1, [[[], []], [terms, []]]), ("b", 2, zero_blocks(2))],
            [("a", 1, [[terms, []], [[], []]]), ("b", 2, zero_blocks(2)), ("c", 0, zero_blocks(2))],
            [("a", 1, [[[(1, "a"), (2, "c")], []], [[], []]]), ("c", 2, zero_blocks(2))],
            [],
        ]
        for other in others:
            assert_equality(self, book, Book(2, other), False)

    def test_not_equal_to_anything_else(self):
        class Alike:
            base, names = 2, []

        book = Book(2, [])
        for other in [None, 2, 0, "", [], (), (2, []), [2, []], {}, Alike(), Book, "2:", Table(Book(2, []), [])]:
            assert_equality(self, book, other, False)
        self.assertIs(book == mock.ANY, False)
        self.assertIs(book != mock.ANY, True)

    def test_names_that_there_are_not(self):
        book = Book(2, ROWS_OF_BITS)
        for told in [book.start_of, book.blocks_of]:
            for name in ["a", "z", "", "X", "xn", "x ", "p'"]:
                with self.assertRaises(InvalidName) as caught:
                    told(name)
                self.assertEqual(caught.exception.value, name)
        for told in [Book(3, []).start_of, Book(3, []).blocks_of]:
            with self.assertRaises(InvalidName) as caught:
                told("a")
            self.assertEqual(caught.exception.value, "a")
        self.assertEqual(book, Book(2, ROWS_OF_BITS))


if __name__ == "__main__":
    unittest.main()

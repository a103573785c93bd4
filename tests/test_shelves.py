"""Promises 65 to 68: shelves."""

import inspect
import itertools
import random
import unittest

from blockbooks.books import Book
from blockbooks.errors import BlockError, InvalidBase, InvalidName, InvalidNumber, NothingToUndo, TooWide, UnlikeBases
from blockbooks.forms import plain, rank_of
from blockbooks.joins import added
from blockbooks.parting import are_alike
from blockbooks.shelves import Shelf, SmallShelf
from blockbooks.tables import Table, table_named
from tests.helper import (
    assert_equality, assert_error, book_of, nothing, random_table, ring_rows, spot_table,
)


class Model:
    """A shelf told by its calls alone, which are gone through anew for each question."""

    def __init__(self, base, most=None):
        self.base, self.most, self.calls = base, most, []

    def tables(self):
        found = {}
        for kind, title, *table in self.calls:
            if kind == "put":
                found[title] = table[0]
            else:
                del found[title]
        return found

    def wrong(self, kind, title, table):
        """Return the error that a call must raise, or None."""
        if kind == "undo":
            return None if self.calls else (NothingToUndo, 0)
        if kind == "drop":
            return None if title in self.tables() else (InvalidName, title)
        if len(title) != 1 or title not in "abcdefghijklmnopqrstuvwxyz":
            return InvalidName, title
        if table.book.base != self.base:
            return UnlikeBases, (self.base, table.book.base)
        if self.most is not None and rank_of(table) > self.most:
            return TooWide, rank_of(table)
        return None

    def do(self, kind, title, table):
        if kind == "undo":
            self.calls.pop()
        else:
            self.calls.append((kind, title, table) if kind == "put" else (kind, title))


def tables_of(base):
    return [nothing(base), spot_table(base, [(0, 1)]), spot_table(base, []), plain(spot_table(base, [(0, 1)])),
            random_table(base, base, 3), Table(Book(base, []), []), spot_table(base, [(1, 1)] * 3)]


def check_state(test, shelf, model):
    tables = model.tables()
    test.assertEqual(shelf.titles, sorted(tables))
    test.assertEqual(len(shelf), len(tables))
    test.assertEqual(shelf.story(), model.calls)
    for title in "abcdxyz":
        if title in tables:
            test.assertIs(shelf.table_on(title), tables[title])
        else:
            assert_error(test, InvalidName, title, shelf.table_on, title)


class Calls(unittest.TestCase):
    """Promise 65."""

    def test_interface(self):
        for kind, names in [(Shelf, ["base"]), (SmallShelf, ["base", "most"])]:
            self.assertEqual(kind.__module__, "blockbooks.shelves")
            self.assertEqual(list(inspect.signature(kind).parameters), names)
        self.assertTrue(issubclass(SmallShelf, Shelf))
        own = vars(Shelf)
        for name, names in [("put", ["title", "table"]), ("drop", ["title"]), ("undo", []), ("table_on", ["title"]),
                            ("alike_on", ["table"]), ("story", [])]:
            self.assertEqual(list(inspect.signature(own[name]).parameters), ["self"] + names)
        self.assertIsInstance(own["titles"], property)
        self.assertTrue({"__len__", "__eq__", "__init__"} <= set(own))
        self.assertTrue({"put", "__init__"} <= set(vars(SmallShelf)))

    def test_the_example(self):
        signs = book_of("signs")
        shelf = Shelf(2)
        found = [shelf.put("b", table_named(signs, "h")), shelf.put("a", Table(signs, [0, 0, 2, 0])), shelf.titles,
                 shelf.alike_on(Table(signs, [1, 0, 0, 0])), shelf.drop("b"), len(shelf), shelf.undo(),
                 shelf.table_on("b") == table_named(signs, "h"), len(shelf.story()), Shelf(2) == SmallShelf(2, 5)]
        self.assertEqual(found, [None, None, ["a", "b"], ["b"], None, 1, None, True, 2, False])

    def test_call_by_call(self):
        for seed in range(40):
            chance = random.Random(seed)
            base = 2 + seed % 2
            most = [None, 2, 4, 0][seed % 4]
            shelf = Shelf(base) if most is None else SmallShelf(base, most)
            model = Model(base, most)
            tables = tables_of(base) + tables_of(5 - base)[:2]
            for _ in range(100):
                kind = chance.choice(["put", "put", "put", "drop", "undo"])
                title = chance.choice(["a", "b", "c", "z", "", "ab", "A"] if chance.random() < 0.3 else "abcz")
                table = chance.choice(tables)
                told = {"put": (title, table), "drop": (title,), "undo": ()}[kind]
                wrong = model.wrong(kind, title, table)
                if wrong is None:
                    model.do(kind, title, table)
                    self.assertIsNone(getattr(shelf, kind)(*told))
                else:
                    assert_error(self, wrong[0], wrong[1], getattr(shelf, kind), *told)
                check_state(self, shelf, model)

    def test_a_table_that_is_put_again(self):
        one, other = spot_table(2, []), spot_table(2, [(1, 1)])
        shelf = Shelf(2)
        shelf.put("q", one), shelf.put("q", other)
        self.assertEqual((shelf.titles, len(shelf)), (["q"], 1))
        self.assertIs(shelf.table_on("q"), other)
        shelf.undo()
        self.assertIs(shelf.table_on("q"), one)
        shelf.drop("q"), shelf.put("q", other), shelf.drop("q")
        self.assertEqual(shelf.story(), [("put", "q", one), ("drop", "q"), ("put", "q", other), ("drop", "q")])
        shelf.undo()
        self.assertIs(shelf.table_on("q"), other)
        shelf.undo(), shelf.undo()
        self.assertIs(shelf.table_on("q"), one)
        shelf.undo()
        self.assertEqual((shelf.titles, shelf.story()), ([], []))

    def test_undo_is_not_taken_back(self):
        shelf = Shelf(3)
        shelf.put("a", nothing(3)), shelf.put("b", nothing(3)), shelf.undo(), shelf.undo()
        assert_error(self, NothingToUndo, 0, shelf.undo)
        shelf.put("c", nothing(3))
        self.assertEqual(shelf.titles, ["c"])

    def test_returned_lists(self):
        shelf = Shelf(2)
        shelf.put("a", nothing(2))
        for told in [shelf.titles, shelf.story(), shelf.alike_on(nothing(2))]:
            told.append("z")
            told[0] = "y"
        self.assertEqual((shelf.titles, shelf.story(), shelf.alike_on(nothing(2))), (["a"], [("put", "a", nothing(2))], ["a"]))
        self.assertIsNot(shelf.story(), shelf.story())

    def test_by_name(self):
        shelf = SmallShelf(most=3, base=2)
        self.assertIsNone(shelf.put(table=nothing(2), title="k"))
        self.assertEqual(shelf.alike_on(table=nothing(2)), ["k"])
        self.assertEqual(shelf.table_on(title="k"), nothing(2))
        self.assertIsNone(shelf.drop(title="k"))
        other = Shelf(base=3)
        self.assertIsNone(other.put(table=nothing(3), title="k"))


class Errors(unittest.TestCase):
    """Promise 66."""

    def test_bases_and_limits(self):
        for base in [-2, 0, 1, 4, 10 ** 30, -10 ** 30]:
            assert_error(self, InvalidBase, base, Shelf, base)
            assert_error(self, InvalidBase, base, Shelf, base=base)
            for most in [-1, 0, 5]:
                assert_error(self, InvalidBase, base, SmallShelf, base, most)
        for base in (2, 3):
            for most in [-1, -7, -10 ** 30]:
                assert_error(self, InvalidNumber, most, SmallShelf, base, most)
                assert_error(self, InvalidNumber, most, SmallShelf, most=most, base=base)
            self.assertEqual(len(SmallShelf(base, 0)), 0)

    def test_several_things_wrong_at_once(self):
        wide, other = random_table(4, 2, 4), random_table(4, 3, 4)
        self.assertEqual(rank_of(wide), 4)
        for shelf in [Shelf(2), SmallShelf(2, 3)]:
            shelf.put("a", nothing(2))
            for title in ["", "aa", "A", "1", " ", "-", "z ", "a'"]:
                for table in [nothing(2), wide, other]:
                    assert_error(self, InvalidName, title, shelf.put, title, table)
                assert_error(self, InvalidName, title, shelf.drop, title)
                assert_error(self, InvalidName, title, shelf.table_on, title)
            for table in [other, nothing(3)]:
                assert_error(self, UnlikeBases, (2, 3), shelf.put, "a", table)
                assert_error(self, UnlikeBases, (2, 3), shelf.alike_on, table)
            for title in ["b", "z"]:
                assert_error(self, InvalidName, title, shelf.drop, title)
                assert_error(self, InvalidName, title, shelf.table_on, title)
            self.assertEqual((shelf.titles, len(shelf.story())), (["a"], 1))
        assert_error(self, TooWide, 4, shelf.put, "a", wide)
        assert_error(self, TooWide, 4, shelf.put, "b", wide)
        self.assertEqual((shelf.titles, shelf.table_on("a"), len(shelf.story())), (["a"], nothing(2), 1))
        self.assertIsNone(SmallShelf(2, 4).put("a", wide))
        self.assertIsNone(Shelf(2).put("a", wide))

    def test_ranks(self):
        for most in range(6):
            for deep in range(5):
                shelf = SmallShelf(3, most)
                table = spot_table(3, [(2, 1)] * deep)
                if deep + 1 > most:
                    assert_error(self, TooWide, deep + 1, shelf.put, "a", table)
                    self.assertEqual((shelf.titles, shelf.story()), ([], []))
                else:
                    self.assertIsNone(shelf.put("a", table))
            self.assertIsNone(shelf.put("n", nothing(3)))

    def test_nothing_to_undo(self):
        for shelf in [Shelf(2), SmallShelf(3, 0)]:
            assert_error(self, NothingToUndo, 0, shelf.undo)
            self.assertTrue(issubclass(NothingToUndo, BlockError))

    def test_rings_of_great_rank(self):
        for many in range(2, 7):
            table = table_named(Book(2, ring_rows(2, many)), "a")
            assert_error(self, TooWide, many, SmallShelf(2, many - 1).put, "r", table)
            self.assertIsNone(SmallShelf(2, many).put("r", table))


class Alike(unittest.TestCase):
    """Promise 67."""

    def test_alike_on(self):
        bits = book_of("bits")
        both, lines = Table(bits, [1, 2, 0, 0, 0]), Table(bits, [0, 0, 1, 1, 0])
        shelf = Shelf(2)
        for title, table in [("z", both), ("b", table_named(bits, "x")), ("m", plain(lines)), ("a", nothing(2)), ("c", lines)]:
            shelf.put(title, table)
        self.assertEqual(shelf.alike_on(lines), ["c", "m", "z"])
        self.assertEqual(shelf.alike_on(plain(both)), ["c", "m", "z"])
        self.assertEqual(shelf.alike_on(Table(bits, [1, 2, -1, -1, 0])), ["a"])
        self.assertEqual(shelf.alike_on(table_named(bits, "n")), [])
        shelf.drop("m")
        self.assertEqual(shelf.alike_on(lines), ["c", "z"])
        shelf.undo()
        self.assertEqual(shelf.alike_on(lines), ["c", "m", "z"])
        shelf.put("c", nothing(2))
        self.assertEqual((shelf.alike_on(lines), shelf.alike_on(nothing(2))), (["m", "z"], ["a", "c"]))
        shelf.undo()
        self.assertEqual(shelf.alike_on(lines), ["c", "m", "z"])

    def test_by_are_alike(self):
        for seed in range(6):
            base = 2 + seed % 2
            shelf = Shelf(base)
            tables = [random_table(seed + k % 3, base, 2, sparse=True) for k in range(8)]
            for title, table in zip("hgfedcba", tables):
                shelf.put(title, table if ord(title) % 2 else plain(table))
            for table in tables + [nothing(base), added(tables[0], tables[1])]:
                wanted = [title for title in shelf.titles if are_alike(shelf.table_on(title), table)]
                self.assertEqual(shelf.alike_on(table), wanted)

    def test_errors(self):
        for shelf in [Shelf(3), SmallShelf(3, 1)]:
            assert_error(self, UnlikeBases, (3, 2), shelf.alike_on, nothing(2))
            self.assertEqual(shelf.alike_on(nothing(3)), [])


class Equality(unittest.TestCase):
    """Promise 68."""

    def filled(self, shelf, calls):
        for kind, *told in calls:
            getattr(shelf, kind)(*told)
        return shelf

    def test_equal(self):
        one, other = book_of("signs"), book_of("signs")
        calls = [("put", "a", table_named(one, "h")), ("put", "b", table_named(one, "s")), ("drop", "a")]
        same = [("put", "a", table_named(other, "h")), ("put", "b", table_named(other, "s")), ("drop", "a")]
        for make in [lambda: Shelf(2), lambda: SmallShelf(2, 3)]:
            assert_equality(self, self.filled(make(), calls), self.filled(make(), same), True)
            assert_equality(self, self.filled(make(), calls), self.filled(make(), same + [("undo",), ("drop", "a")]), True)
            assert_equality(self, self.filled(make(), calls[:0]), make(), True)
            shelf = self.filled(make(), calls)
            assert_equality(self, shelf, shelf, True)

    def test_unequal(self):
        signs = book_of("signs")
        h, s = table_named(signs, "h"), table_named(signs, "s")
        calls = [
            [], [("put", "a", h)], [("put", "b", h)], [("put", "a", s)], [("put", "a", plain(h))], [("put", "a", h), ("put", "a", h)],
            [("put", "a", s), ("put", "a", h)], [("put", "a", h), ("put", "b", s)], [("put", "b", s), ("put", "a", h)],
            [("put", "a", h), ("drop", "a")], [("put", "b", h), ("drop", "b")], [("put", "a", h), ("drop", "a"), ("put", "a", h)],
        ]
        for one, other in itertools.product(range(len(calls)), repeat=2):
            for make in [lambda: Shelf(2), lambda: SmallShelf(2, 4)]:
                assert_equality(self, self.filled(make(), calls[one]), self.filled(make(), calls[other]), one == other)

    def test_limits_and_bases(self):
        shelves = [Shelf(2), Shelf(3), SmallShelf(2, 0), SmallShelf(2, 1), SmallShelf(2, 7), SmallShelf(3, 0), SmallShelf(3, 7)]
        for at, one in enumerate(shelves):
            for other_at, other in enumerate(shelves):
                assert_equality(self, one, other, at == other_at)

    def test_anything_else(self):
        for shelf in [Shelf(2), SmallShelf(2, 5)]:
            for other in [None, 2, 0, "", [], {}, (), nothing(2), nothing(2).book, "Shelf", [("put", "a", nothing(2))]]:
                assert_equality(self, shelf, other, False)

    def test_two_shelves_go_their_own_ways(self):
        one, other = Shelf(2), Shelf(2)
        one.put("a", nothing(2))
        self.assertEqual((other.titles, other.story(), len(other)), ([], [], 0))
        other.put("b", nothing(2)), one.undo()
        self.assertEqual((one.titles, other.titles), ([], ["b"]))
        assert_error(self, NothingToUndo, 0, one.undo)


if __name__ == "__main__":
    unittest.main()

"""Promises 69, 70 and 73 (of texts): the texts of books and tables."""

import inspect
import random
import unittest

from blockbooks.books import Book
from blockbooks.errors import Unreadable
from blockbooks.forms import plain
from blockbooks.readings import read_book, read_table
from blockbooks.tables import Table
from blockbooks.texts import show_book, show_table
from tests.helper import (
    assert_error, book_of, nothing, random_rows, random_shares, random_table, ring_rows, sparse_rows, spot_table, zero_blocks,
)

PARTS = "2: s 1 | 1 s , 0 / 1 s , 1 s"
THREES = "3: a -7 | 0 , 9 b + -9 a , 1 b / 0 , 0 , 0 / 1 a + 0 b + 1 a , 2 b , 0; b 99 | 0 , 0 , 0 / 0 , 0 , 0 / 0 , 0 , 1 a"


def books():
    found = [book_of(kind) for kind in ("bits", "signs", "threes")] + [Book(2, []), Book(3, [])]
    for seed in range(20):
        base, many = 2 + seed % 2, 1 + seed % 6
        found += [Book(base, random_rows(seed, base, many)), Book(base, sparse_rows(seed, base, many))]
    found += [Book(2, ring_rows(2, many)) for many in range(1, 6)]
    found.append(Book(2, [("z", 10 ** 39, zero_blocks(2)), ("a", -10 ** 39, [[[(0, "a"), (0, "a")], [(10 ** 30, "z")]], [[], []]])]))
    return found


def text_by_words(book):
    """Return the text of a book by the words of the interface."""
    parts = []
    for name in book.names:
        lists = []
        for line in book.blocks_of(name):
            blocks = []
            for block in line:
                blocks.append(" + ".join(str(c) + " " + n for c, n in block) if block else "0")
            lists.append(" , ".join(blocks))
        parts.append(" " + name + " " + str(book.start_of(name)) + " | " + " / ".join(lists))
    return str(book.base) + ":" + ";".join(parts)


def changed(text, chance):
    """Return a text with a sign left out, put in or exchanged, or with two parts exchanged."""
    at = chance.randrange(len(text) + 1)
    signs = "0123456789-+ :;|,/abcsxz"
    kind = chance.randrange(5)
    if kind == 0:
        return text[:at] + text[at + 1:]
    if kind == 1:
        return text[:at] + chance.choice(signs) + text[at:]
    if kind == 2:
        return text[:at] + chance.choice(signs) + text[at + 1:]
    mark = chance.choice([" ", " , ", " / ", "; ", " + ", " | "])
    parts = text.split(mark)
    one, other = chance.randrange(len(parts)), chance.randrange(len(parts))
    parts[one], parts[other] = parts[other], parts[one]
    if kind == 4:
        del parts[one]
    return mark.join(parts)


class BookTexts(unittest.TestCase):
    """Promise 69."""

    def test_interface(self):
        for call, module, names in [(show_book, "texts", ["book"]), (show_table, "texts", ["table"]),
                                    (read_book, "readings", ["text"]), (read_table, "readings", ["text"])]:
            self.assertEqual(call.__module__, "blockbooks." + module)
            self.assertEqual(list(inspect.signature(call).parameters), names)

    def test_the_example(self):
        parts = Book(2, [("s", 1, [[[(1, "s")], []], [[(1, "s")], [(1, "s")]]])])
        found = [show_book(parts), show_table(Table(parts, [-3])), show_table(nothing(3)), read_book(show_book(parts)) == parts,
                 read_table("2 of 2: s 1 | 1 s , 0 / 1 s , 1 s").written(1)]
        self.assertEqual(found, [PARTS, "-3 of " + PARTS, "none of 3:", True, [[2, 0], [2, 2]]])

    def test_texts(self):
        for book in books():
            text = show_book(book)
            self.assertEqual(text, text_by_words(book))
            found = read_book(text)
            self.assertIs(type(found), Book)
            self.assertEqual(found, book)
            self.assertEqual(show_book(found), text)
        self.assertEqual(show_book(Book(2, [])), "2:")
        self.assertEqual(show_book(read_book(THREES)), THREES)
        self.assertEqual(read_book(THREES).blocks_of("a")[2][0], [(1, "a"), (0, "b"), (1, "a")])
        self.assertEqual(read_book(text="3:"), Book(base=3, named=[]))
        self.assertEqual(show_book(book=Book(3, [])), "3:")

    def test_other_texts(self):
        for text in [
            "", ":", "2", "2 :", " 2:", "2: ", "2:;", "4:", "1:", "02:", "-2:", "+2:", "2::", "22:", "2:\t", "3 ", "x:", "2:s",
            "2: s 1", "2: s 1 |", "2: s 1 | ", "2: s 1 | 0", "2: s 1 | 0 , 0", "2: s 1 | 0 , 0 / 0 , 0 ", " 2: s 1 | 0 , 0 / 0 , 0",
            "2:s 1 | 0 , 0 / 0 , 0", "2:  s 1 | 0 , 0 / 0 , 0", "2: s  1 | 0 , 0 / 0 , 0", "2: s 1  | 0 , 0 / 0 , 0",
            "2: s 1 |  0 , 0 / 0 , 0", "2: s 1 | 0  , 0 / 0 , 0", "2: s 1 | 0 , 0  / 0 , 0", "2: s 1 | 0 , 0 /  0 , 0",
            "2: s 1 | 0, 0 / 0 , 0", "2: s 1 | 0 ,0 / 0 , 0", "2: s 1 | 0 , 0/0 , 0", "2: s 1 | 0 , 0 , 0 / 0 , 0",
            "2: s 1 | 0 , 0 / 0 , 0 / 0 , 0", "2: s 1 | 0 , 0 , 0 , 0", "3: s 1 | 0 , 0 / 0 , 0", "2: s 1 | 0 , 0 / 0 , 0;",
            "2: s 1 | 0 , 0 / 0 , 0; s 2 | 0 , 0 / 0 , 0", "2: s 1 | 0 , 0 / 0 , 0 ; t 2 | 0 , 0 / 0 , 0",
            "2: s 1 | 0 , 0 / 0 , 0;t 2 | 0 , 0 / 0 , 0", "2: s 1 | 0 , 0 / 0 , 0;; t 2 | 0 , 0 / 0 , 0", "2: S 1 | 0 , 0 / 0 , 0",
            "2: st 1 | 0 , 0 / 0 , 0", "2: 1 s | 0 , 0 / 0 , 0", "2: s s | 0 , 0 / 0 , 0", "2: s | 0 , 0 / 0 , 0",
            "2: s 1 2 | 0 , 0 / 0 , 0", "2: s 1 | t , 0 / 0 , 0", "2: s 1 | 1 t , 0 / 0 , 0", "2: s 1 | s 1 , 0 / 0 , 0",
            "2: s 1 | 1 s + 0 , 0 / 0 , 0", "2: s 1 | 0 + 1 s , 0 / 0 , 0", "2: s 1 | 1 s + , 0 / 0 , 0", "2: s 1 | + 1 s , 0 / 0 , 0",
            "2: s 1 | 1 s 1 s , 0 / 0 , 0", "2: s 1 | 1 s+1 s , 0 / 0 , 0", "2: s 1 | 1s , 0 / 0 , 0", "2: s 1 | -s , 0 / 0 , 0",
            "2: s 1 | 00 , 0 / 0 , 0", "2: s 1 | -0 , 0 / 0 , 0", "2: s 1 | 0 s + , 0 / 0 , 0", "2: s 1 | , 0 / 0 , 0",
            "2: s 1 | 0 , 0 | 0 , 0", "2: s 1 / 0 , 0 / 0 , 0", "2: s 1 | 1 s - 1 s , 0 / 0 , 0", "2: s 1_0 | 0 , 0 / 0 , 0",
            "2: s 1.0 | 0 , 0 / 0 , 0", "2: s 0x1 | 0 , 0 / 0 , 0", "2: s +1 | 0 , 0 / 0 , 0", "2: s --1 | 0 , 0 / 0 , 0",
            "2: s - | 0 , 0 / 0 , 0", "2: s 1- | 0 , 0 / 0 , 0", "none", "none of 2:", "2: | 1 | 0 , 0 / 0 , 0",
        ]:
            assert_error(self, Unreadable, text, read_book, text)
            assert_error(self, Unreadable, text, read_book, text=text)

    def test_integers(self):
        for written in ["0", "-1", "7", "1" * 39, "-" + "9" * 39, "1" * 40, "-" + "9" * 40, "1" + "0" * 39]:
            for text in [f"2: s {written} | 0 , 0 / 0 , 0", f"2: s 1 | 0 , {written} s / 0 , 0"]:
                self.assertEqual(show_book(read_book(text)), text)
            self.assertEqual(read_book(f"2: s {written} | 0 , 0 / 0 , 0").start_of("s"), int(written))
            self.assertEqual(read_table(f"{written} of {PARTS}").shares, [int(written)])
        for written in ["-0", "00", "01", "-01", "007", "1" * 41, "-" + "1" * 41, "0" * 40, "1 0", "1,0", "1e3", "--1", "- 1", "+0", ""]:
            for text in [f"2: s {written} | 0 , 0 / 0 , 0", f"2: s 1 | 0 , {written} s / 0 , 0"]:
                assert_error(self, Unreadable, text, read_book, text)
            assert_error(self, Unreadable, f"{written} of {PARTS}", read_table, f"{written} of {PARTS}")

    def test_changed_texts(self):
        # A text is read exactly if what is read has this text.
        chance = random.Random(69)
        kinds = {True: 0, False: 0}
        texts = [show_book(book) for book in books() if len(show_book(book)) < 400] + [PARTS, THREES] * 10
        for text in texts * 12:
            other = changed(text, chance)
            if chance.random() < 0.3:
                other = changed(other, chance)
            try:
                found = read_book(other)
            except Unreadable as error:
                self.assertEqual((type(error), error.value), (Unreadable, other))
                self.assertFalse(self.is_a_text(other), other)
                kinds[False] += 1
            else:
                self.assertEqual(show_book(found), other)
                self.assertTrue(self.is_a_text(other), other)
                kinds[True] += 1
        self.assertGreater(min(kinds.values()), 50)

    def is_a_text(self, text):
        """Return whether a book has a text, by a pattern and by the Book check."""
        import re
        number = "(-?[1-9][0-9]{0,39}|0)"
        block = f"(0|{number} [a-z]( \\+ {number} [a-z])*)"
        line = f"{block}( , {block})*"
        named = f" [a-z] {number} \\| {line}( / {line})*"
        if not re.fullmatch(f"[23]:({named}(;{named})*)?", text):
            return False
        base, several = int(text[0]), text[2:].split(";") if text[2:] else []
        names = [some[1] for some in several]
        for some in several:
            lines = [line.split(" , ") for line in some.split(" | ")[1].split(" / ")]
            used = [term.split(" ")[1] for line in lines for block in line if block != "0" for term in block.split(" + ")]
            if len(lines) != base or any(len(line) != base for line in lines) or any(name not in names for name in used):
                return False
        return len(set(names)) == len(names)


class TableTexts(unittest.TestCase):
    """Promise 70."""

    def test_texts(self):
        for seed, book in enumerate(books()):
            for shares in [random_shares(seed, len(book.names)), [0] * len(book.names), [-10 ** 30] * len(book.names)]:
                table = Table(book, shares)
                text = show_table(table)
                self.assertEqual(text, (" ".join(map(str, shares)) or "none") + " of " + text_by_words(book))
                found = read_table(text)
                self.assertIs(type(found), Table)
                self.assertEqual(found, table)
        self.assertEqual(show_table(table=nothing(2)), "none of 2:")
        self.assertEqual(read_table(text="none of 2:"), nothing(2))

    def test_other_texts(self):
        for text in [
            "", "none", "none of ", " of 2:", "of 2:", "none of 2", "none  of 2:", "none of  2:", " none of 2:", "none of 2: ",
            "0 of 2:", "none of " + PARTS, "1 2 of " + PARTS, "1  of " + PARTS, " 1 of " + PARTS, "1 of  " + PARTS, "1 of" + PARTS,
            "1 " + PARTS, PARTS, "1 of " + PARTS + " ", "1 of " + PARTS + ";", "1 of 1 of " + PARTS, "-0 of " + PARTS,
            "none of none of 2:", "1, of " + PARTS, "s of " + PARTS, "1 2 3 of " + THREES, "1 of " + THREES, "1  2 of " + THREES,
            "None of 2:", "none of 4:", "1of " + PARTS, "1 Of " + PARTS, "1 none of " + THREES, "2:",
        ]:
            assert_error(self, Unreadable, text, read_table, text)
            assert_error(self, Unreadable, text, read_table, text=text)

    def test_changed_texts(self):
        chance = random.Random(70)
        read = 0
        for at in range(1200):
            book = read_book([PARTS, THREES, "2:", "3:"][at % 4])
            text = changed(show_table(Table(book, random_shares(at, len(book.names)))), chance)
            try:
                found = read_table(text)
            except Unreadable as error:
                self.assertEqual((type(error), error.value), (Unreadable, text))
            else:
                self.assertEqual(show_table(found), text)
                read += 1
        self.assertGreater(read, 100)


class PlainTexts(unittest.TestCase):
    """Promise 73 (of texts)."""

    def test_the_text_of_a_plain_table_gives_it_again(self):
        tables = [random_table(seed, 2 + seed % 2, 1 + seed % 3) for seed in range(12)]
        tables += [nothing(2), spot_table(3, [(1, 2), (0, 0)], -5), Table(book_of("bits"), [1, 2, 3, 4, 5])]
        for table in tables:
            form = plain(table)
            self.assertEqual(read_table(show_table(form)), form)
            self.assertEqual(read_book(show_book(form.book)), form.book)


if __name__ == "__main__":
    unittest.main()

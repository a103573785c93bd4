"""Sums of products of tables, and whether they are the same at all levels."""

from blockbooks.books import Book
from blockbooks.checks import check_base, check_bases, check_side
from blockbooks.compounds import product_of, sum_of, turned
from blockbooks.forms import plain_of, plainly_told
from blockbooks.joins import product
from blockbooks.nodes import first_worth
from blockbooks.relations import mixture
from blockbooks.tables import Table, table_named


def side_table(book, side):
    """Return the plain table of a side."""
    check_side(book.names, side)
    return plain_of(_side_of(book, side))


def identity_parts(book, side, other_side):
    """Return (level, row, column, difference) of the first place where two sides part, or None."""
    check_side(book.names, side)
    check_side(book.names, other_side)
    return first_worth(_side_of(book, side + [(-coefficient, word) for coefficient, word in other_side]))


def identity_of(base):
    """Return the plain table with 1 where row and column are equal, and 0 elsewhere."""
    check_base(base)
    sides = range(base)
    blocks = [[[(1, "a")] if row == column else [] for column in sides] for row in sides]
    return Table(Book(base, [("a", 1, blocks)]), [1])


def inverse_among(table, tables):
    """Return a list of integers whose products with the tables add up to the inverse of a table, or None."""
    check_bases([table, *tables])
    # A table with an inverse makes no sum 0 that was not, so the numbers are those that `mixture` tells.
    return mixture(identity_of(table.book.base), [product(table, other) for other in tables])


def _side_of(book, side):
    """Return the table of a side as a tuple (system, shares)."""
    # The same word on both sides falls out here, so it costs nothing however wide it is.
    numbers = {}
    for coefficient, word in side:
        numbers[tuple(word)] = numbers.get(tuple(word), 0) + coefficient
    words = [word for word, number in numbers.items() if number != 0]
    parts = sorted(set([part for word in words for part in word]))
    factors = {part: _factor(book, part) for part in parts}
    several_told = [_product(book.base, [factors[part] for part in word]) for word in words]
    return sum_of(book.base, several_told, [numbers[word] for word in words])


def _factor(book, part):
    """Return the table of one string of a word, by as few named tables as can be."""
    told = plainly_told(table_named(book, part[0]))
    return turned(told) if len(part) > 1 else told


def _product(base, several_told):
    if not several_told:
        return plainly_told(identity_of(base))
    found = several_told[0]
    for told in several_told[1:]:
        found = product_of(found, told)
    return found

"""Tables made of other tables: sums, multiples, products, turned ones, blocks and frames, all of them plain."""

from blockbooks.checks import check_bases, check_frame, check_place
from blockbooks.compounds import entrywise_of, frame_of, product_of, turned
from blockbooks.forms import plain, plain_of, plainly_told
from blockbooks.systems import on_one_system
from blockbooks.vectors import mixed


def added(table, other_table):
    """Return the sum of two tables."""
    check_bases([table, other_table])
    system, (shares, other_shares) = on_one_system([table, other_table])
    return plain_of((system, mixed(1, shares, 1, other_shares)))


def scaled(table, number):
    """Return a number times a table."""
    return plain_of((table.book.system, [number * share for share in table.shares]))


def product(table, other_table):
    """Return the product of two square tables, rows times columns, at every level."""
    check_bases([table, other_table])
    return plain_of(product_of(plainly_told(table), plainly_told(other_table)))


def entrywise(table, other_table):
    """Return the table of the products of the entries of two tables at the same place."""
    check_bases([table, other_table])
    return plain_of(entrywise_of(plainly_told(table), plainly_told(other_table)))


def transposed(table):
    """Return a table with rows and columns exchanged."""
    return plain_of(turned((table.book.system, table.shares)))


def block_of(table, row, column):
    """Return the block of a table in a block row and a block column."""
    system = table.book.system
    # The blocks lie as the places of level 1 do.
    check_place(system.base, 1, (row, column))
    return plain_of((system, system.block_shares(table.shares, row, column)))


def framed(start, blocks):
    """Return the table with a start whose blocks are given tables."""
    check_frame(blocks)
    system, blocks_there = on_one_system([plain(table) for line in blocks for table in line])
    return plain_of(frame_of(start, system, blocks_there))

"""Sums of the entries of a level, of those whose row is their column, and of those of a rectangle."""

from blockbooks.checks import check_area, check_level
from blockbooks.places import digits_of
from blockbooks.vectors import mixed, times

# What of the rows, or of the columns, of a block belongs to a rectangle: all, those from its first
# one on, those up to its last one, or those from its first one up to its last one.
WHOLE = 0
TAIL = 1
HEAD = 2
INNER = 3


def total_at(table, level):
    """Return the sum of all entries of a level."""
    check_level(level)
    system, shares = table.book.system.part_of(table.shares)
    return times(shares, system.totals().at(level))


def trace_at(table, level):
    """Return the sum of the entries of a level whose row is their column."""
    check_level(level)
    system, shares = table.book.system.part_of(table.shares)
    return times(shares, system.traces().at(level))


def area_sum(table, level, first, last):
    """Return the sum of the entries of a rectangle from one tuple (row, column) to another one."""
    check_level(level)
    check_area(table.book.base, level, first, last)
    system, shares = table.book.system.part_of(table.shares)
    corners = system.corners(level)
    if corners is None:
        return _sum_of_parts(system, shares, level, first, last)
    return times(shares, corners.area(level, first, (last[0] + 1, last[1] + 1)))


def _sum_of_parts(system, shares, level, first, last):
    """Return the sum of the entries of a rectangle, by the parts of it that lie in each block."""
    base = system.base
    rows, last_rows = digits_of(first[0], base, level), digits_of(last[0], base, level)
    columns, last_columns = digits_of(first[1], base, level), digits_of(last[1], base, level)
    kept = {(INNER, INNER): shares}
    for row, last_row, column, last_column in zip(rows, last_rows, columns, last_columns):
        kept = _within(system, kept, _parts(base, row, last_row), _parts(base, column, last_column))
    # At level 0 each part is the one place that there is.
    return sum([system.first_entry(part) for part in kept.values()])


def _parts(base, first, last):
    """Return, for each part of a table, the block rows it goes through, and which part it takes of each.

    First and last are the block rows in which its first and its last row lie; columns go likewise.
    """
    between = [(at, WHOLE) for at in range(first + 1, last)]
    return {
        WHOLE: [(at, WHOLE) for at in range(base)],
        TAIL: [(first, TAIL)] + [(at, WHOLE) for at in range(first + 1, base)],
        HEAD: [(at, WHOLE) for at in range(last)] + [(last, HEAD)],
        INNER: [(first, INNER)] if first == last else [(first, TAIL)] + between + [(last, HEAD)],
    }


def _within(system, kept, row_parts, column_parts):
    """Return the tables of which a part is taken one level lower, by the parts of rows and columns.

    Tables of which the same part is taken are added up, so there are never more than nine.
    """
    found = {}
    for (row_part, column_part), shares in kept.items():
        for row, lower_row_part in row_parts[row_part]:
            for column, lower_column_part in column_parts[column_part]:
                lower = (lower_row_part, lower_column_part)
                block = system.block_shares(shares, row, column)
                found[lower] = mixed(1, found[lower], 1, block) if lower in found else block
    return found

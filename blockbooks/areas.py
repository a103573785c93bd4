"""Sums of the entries of a level, of those whose row is their column, and of those of a rectangle."""

from blockbooks.checks import check_area, check_level
from blockbooks.vectors import times


def total_at(table, level):
    """Return the sum of all entries of a level."""
    check_level(level)
    system, shares = table.book.system.part_of(table.shares)
    return times(shares, system.totals().at(level))


def trace_at(table, level):
    """Return the sum of the entries of a level whose row is their column."""
    check_level(level)
    system, shares = table.book.system.part_of(table.shares)
    return times(shares, system.traces().at(level))


def area_sum(table, level, first, last):
    """Return the sum of the entries of a rectangle from one tuple (row, column) to another one."""
    check_level(level)
    check_area(table.book.base, level, first, last)
    system, shares = table.book.system.part_of(table.shares)
    corners = system.corners()
    top, left, bottom, right = first[0], first[1], last[0] + 1, last[1] + 1
    # Of all that stands above and left of its end, what stands above the rectangle and what stands left of it
    # is taken away, and what stands above and left of it was taken away twice.
    whole = times(shares, corners.at(level, bottom, right)) + times(shares, corners.at(level, top, left))
    return whole - times(shares, corners.at(level, top, right)) - times(shares, corners.at(level, bottom, left))

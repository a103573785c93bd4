"""Sums of all entries above a row and left of a column, from which those of rectangles are made."""

from blockbooks.places import side_of
from blockbooks.strides import Stride, inmost, wider
from blockbooks.vectors import spared, stepped

# How many levels a wide stride takes at once, by the base.
AT_ONCE = {2: 4, 3: 2}
# Making a wide stride takes as long as some corners of far levels do, and ever longer for more named tables.
# So it is made for few of them alone, and only when so many levels were gone through without it.
FEW = 6
ENOUGH = 800
# How many corners, and how many edges, are kept for those who ask for them again.
MOST_CORNERS = 4000
MOST_EDGES = 20


class Corners:
    """For each table of a system, the sums of all entries above a row and left of a column of a level.

    A row or a column that is one more than the last one stands for the end of the level.
    """

    def __init__(self, base, steps, totals):
        self._base = base
        self._steps = steps
        self._totals = totals
        self._many = len(steps[0][0])
        self._narrow = Stride(inmost(base, steps))
        self._wide = None
        self._gone = 0
        self._corners = {}
        self._edges = {}
        self._ways = {}

    def at(self, level, row, column):
        """Return the list of the sums of a corner, which must not be changed."""
        place = (level, row, column)
        if place not in self._corners:
            self._count(level)
            if len(self._corners) >= MOST_CORNERS:
                self._corners.clear()
            self._corners[place] = self._corner(level, row, column)
        return self._corners[place]

    def _count(self, level):
        """Take note that a corner of a level is asked for, and make the wide stride if it is time to."""
        self._gone += level
        if self._wide is None and self._gone > ENOUGH and self._many <= FEW:
            grid = inmost(self._base, self._steps)
            for _ in range(AT_ONCE[self._base] - 1):
                grid = wider(self._steps, grid)
            self._wide = Stride(grid)
            # What is kept of ways and edges goes by narrow strides.
            self._ways.clear()
            self._edges.clear()

    def _way_to(self, level):
        """Return, from level 0 on, the strides by which a level is reached, each with the level where it begins."""
        if level not in self._ways:
            at_once = 1 if self._wide is None else AT_ONCE[self._base]
            last = level - level % at_once
            strides = [(self._narrow if at_once == 1 else self._wide, below) for below in range(0, last, at_once)]
            self._ways[level] = strides + [(self._narrow, below) for below in range(last, level)]
        return self._ways[level]

    def _corner(self, level, row, column):
        if row == 0 or column == 0:
            return [0] * self._many
        side = side_of(self._base, level)
        if row == side and column == side:
            return self._totals.at(level)
        if row == side:
            return self._edge(level, column, False)[1][-1]
        if column == side:
            return self._edge(level, row, True)[1][-1]
        rows, above = self._edge(level, row, True)
        columns, left = self._edge(level, column, False)
        sums = [0] * self._many
        for at, (stride, below) in enumerate(self._way_to(level)):
            i, j = rows[at], columns[at]
            # In its own block the corner goes on; in those above it all rows count, in those left of it all columns.
            inner = spared(sums + left[at] + above[at])
            sums = stepped(stride.whole_before(self._totals, below, i, j), stride.corner_step(i, j), inner)
        return sums

    def _edge(self, level, number, is_row):
        """Return for a row, or a column, its digits, the last one first, and the sums of all above, or left of it.

        The sums are those of the levels between the strides, from level 0 on.
        """
        key = (level, number, is_row)
        if key not in self._edges:
            if len(self._edges) >= MOST_EDGES:
                self._edges.clear()
            self._edges[key] = self._new_edge(level, number, is_row)
        return self._edges[key]

    def _new_edge(self, level, number, is_row):
        digits, sums = [], [[0] * self._many]
        for stride, below in self._way_to(level):
            digit = number % stride.side
            number = number // stride.side
            digits.append(digit)
            if is_row:
                whole, step = stride.whole_before(self._totals, below, digit, stride.side), stride.row_steps[digit]
            else:
                whole, step = stride.whole_before(self._totals, below, stride.side, digit), stride.column_steps[digit]
            sums.append(stepped(whole, step, spared(sums[-1])))
        return digits, sums

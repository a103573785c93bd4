"""Sums of all entries above a row and left of a column, from which those of rectangles are made."""

from blockbooks.places import side_of
from blockbooks.strides import Stride, inmost, wider
from blockbooks.vectors import first_at, mixed, spared, stepped

# How many levels a wide stride takes at once, by the base.
AT_ONCE = {2: 4, 3: 2}
# Making a wide stride takes as long as some corners of far levels do, and ever longer for more named tables.
# So it is made for few of them alone, and only when so many levels were gone through without it.
FEW = 6
ENOUGH = 1000
# How many corners, and how many edges, are kept for those who ask for them again.
MOST_CORNERS = 4000
MOST_EDGES = 20


class Corners:
    """For each table of a system, the sums of all entries above a row and left of a column of a level.

    A row or a column that is one more than the last one stands for the end of the level.
    """

    def __init__(self, base, steps, totals):
        self._base = base
        self._steps = steps
        self._totals = totals
        self._many = len(steps[0][0])
        self._narrow = Stride(inmost(base, steps))
        self._wide = None
        self._gone = 0
        self._corners = {}
        self._edges = {}
        self._ways = {}

    def area(self, level, first, end):
        """Return the list of the sums of the rows and columns from a tuple (row, column) on up to another one.

        The row and the column of the end are the first ones that do not belong to it.
        """
        self._count(level)
        way = self._way_to(level)
        rows, columns = _unlike(way, first[0], end[0]), _unlike(way, first[1], end[1])
        if rows == len(way) and columns == len(way):
            strips = [self._strip(level, (first[0], end[0]), column, True) for column in (first[1], end[1])]
            return mixed(1, strips[1], -1, strips[0])
        if rows <= columns:
            return self._narrow_area(way, (rows, columns), (first[0], end[0]), (first[1], end[1]), True)
        return self._narrow_area(way, (columns, rows), (first[1], end[1]), (first[0], end[0]), False)

    def _narrow_area(self, way, unlike, lines, crosses, are_rows):
        """Return the sums of an area whose lines, its rows or its columns, lie in one block of a stride.

        From this stride on nothing above both rows, or left of both columns, plays a part any more. How many strides
        it takes until the lines, and until the columns or rows across them, lie in one block is told by two numbers.
        """
        below = way[unlike[0]][1]
        side = side_of(self._base, below)
        inner = [line % side for line in lines]
        edge = mixed(1, self._edge(below, inner[1], are_rows)[1][-1], -1, self._edge(below, inner[0], are_rows)[1][-1])
        strips = [self._strip(below, inner, cross % side, are_rows) for cross in crosses]
        line_digits = _digits(way, lines[0])
        cross_digits = [_digits(way, cross) for cross in crosses]
        for at in range(unlike[0], unlike[1]):
            stride, line = way[at][0], line_digits[at]
            strips = [
                _further_strip(stride, line, digits[at], strip, edge, are_rows)
                for digits, strip in zip(cross_digits, strips)
            ]
            steps = stride.row_steps if are_rows else stride.column_steps
            edge = stepped([0] * self._many, steps[line], spared(edge))
        # Up to the end of the level all that the lines tell is wanted.
        found = mixed(1, edge if len(cross_digits[1]) > len(way) else strips[1], -1, strips[0])
        for at in range(unlike[1], len(way)):
            line, cross = line_digits[at], cross_digits[0][at]
            row, column = (line, cross) if are_rows else (cross, line)
            found = stepped([0] * self._many, way[at][0].block_step(row, column, False, False), spared(found))
        return found

    def _strip(self, level, lines, cross, are_rows):
        """Return the sums of what lies between two rows left of a column, or between two columns above a row."""
        if are_rows:
            return mixed(1, self.at(level, lines[1], cross), -1, self.at(level, lines[0], cross))
        return mixed(1, self.at(level, cross, lines[1]), -1, self.at(level, cross, lines[0]))

    def at(self, level, row, column):
        """Return the list of the sums of a corner, which must not be changed."""
        place = (level, row, column)
        if place not in self._corners:
            self._count(level)
            if len(self._corners) >= MOST_CORNERS:
                self._corners.clear()
            self._corners[place] = self._corner(level, row, column)
        return self._corners[place]

    def _count(self, level):
        """Take note that something of a level is asked for, and make the wide stride if it is time to."""
        self._gone += level
        if self._wide is None and self._gone > ENOUGH and self._many <= FEW:
            grid = inmost(self._base, self._steps)
            for _ in range(AT_ONCE[self._base] - 1):
                grid = wider(self._steps, grid)
            self._wide = Stride(grid)
            # What is kept of ways and edges goes by narrow strides.
            self._ways.clear()
            self._edges.clear()

    def _way_to(self, level):
        """Return, from level 0 on, the strides by which a level is reached, each with the level where it begins."""
        if level not in self._ways:
            at_once = 1 if self._wide is None else AT_ONCE[self._base]
            last = level - level % at_once
            strides = [(self._narrow if at_once == 1 else self._wide, below) for below in range(0, last, at_once)]
            self._ways[level] = strides + [(self._narrow, below) for below in range(last, level)]
        return self._ways[level]

    def _corner(self, level, row, column):
        if row == 0 or column == 0:
            return [0] * self._many
        side = side_of(self._base, level)
        if row == side and column == side:
            return self._totals.at(level)
        if row == side:
            return self._edge(level, column, False)[1][-1]
        if column == side:
            return self._edge(level, row, True)[1][-1]
        rows, above = self._edge(level, row, True)
        columns, left = self._edge(level, column, False)
        sums = [0] * self._many
        # As long as the row or the column has digits 0 alone there is nothing above it, or left of it.
        way = self._way_to(level)
        for at in range(max(first_at(rows), first_at(columns)), len(way)):
            (stride, below), i, j = way[at], rows[at], columns[at]
            # In its own block the corner goes on; in those above it all rows count, in those left of it all columns.
            inner = spared(sums + left[at] + above[at])
            sums = stepped(stride.whole_before(self._totals, below, i, j), stride.block_step(i, j, True, True), inner)
        return sums

    def _edge(self, level, number, is_row):
        """Return for a row, or a column, its digits, the last one first, and the sums of all above, or left of it.

        The sums are those of the levels between the strides, from level 0 on.
        """
        key = (level, number, is_row)
        if key not in self._edges:
            if len(self._edges) >= MOST_EDGES:
                self._edges.clear()
            self._edges[key] = self._new_edge(level, number, is_row)
        return self._edges[key]

    def _new_edge(self, level, number, is_row):
        way = self._way_to(level)
        digits, sums = _digits(way, number), [[0] * self._many]
        for (stride, below), digit in zip(way, digits):
            if digit == 0 and not any(sums[-1]):
                sums.append(sums[-1])
            elif is_row:
                whole = stride.whole_before(self._totals, below, digit, stride.side)
                sums.append(stepped(whole, stride.row_steps[digit], spared(sums[-1])))
            else:
                whole = stride.whole_before(self._totals, below, stride.side, digit)
                sums.append(stepped(whole, stride.column_steps[digit], spared(sums[-1])))
        return digits, sums


def _digits(way, number):
    """Return the block rows of a row, or the block columns of a column, by strides, and behind them 1 for the end."""
    digits = []
    for stride, _ in way:
        digits.append(number % stride.side)
        number = number // stride.side
    return digits + [number] if number > 0 else digits


def _unlike(way, number, other):
    """Return how many strides it takes until two rows, or two columns, lie in the same block: all if they never do."""
    many = 0
    while number != other and many < len(way):
        number, other = number // way[many][0].side, other // way[many][0].side
        many += 1
    return many


def _further_strip(stride, line, cross, strip, edge, are_rows):
    """Return the sums of a strip one stride further, by the blocks in which its lines lie and it ends."""
    if cross == 0 and not any(strip):
        return strip
    if are_rows:
        step = stride.block_step(line, cross, False, True)
    else:
        step = stride.block_step(cross, line, True, False)
    return stepped([0] * len(strip), step, spared(strip + edge))

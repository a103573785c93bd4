"""Strides: some levels gone through at once, for sums over blocks that stand together.

A matrix is told by rows: for each table, how much of each table there is in it.
"""

from blockbooks.vectors import packed, spared, stepped


class Stride:
    """The blocks of the tables of a system some levels further in, and sums of blocks that stand together.

    The blocks are told by a grid: for each block row and block column a matrix.
    """

    def __init__(self, grid):
        self.side = len(grid)
        sides = range(self.side)
        self._grid = grid
        # By block row and by how many of its blocks, the sum of the first ones; by block column likewise.
        self._left = [_running(line) for line in grid]
        self._above = [_running([line[column] for line in grid]) for column in sides]
        # By how many block columns and how many block rows, the sum of all blocks in the first ones of both.
        self._before = [_running([line[column] for line in self._left]) for column in range(self.side + 1)]
        self.row_steps = [packed(self._left[row][self.side]) for row in sides]
        self.column_steps = [packed(self._above[column][self.side]) for column in sides]
        self._steps = {}
        self._steps_before = {}
        self._whole = {}

    def block_step(self, row, column, above, left):
        """Return the step to what lies in a block from what lies in a block of it, one stride further in.

        If it is asked for, the step goes also from the edge by which the blocks above count, and from the one by
        which the blocks left of it count.
        """
        key = (row, column, above, left)
        if key not in self._steps:
            parts = [self._grid[row][column]]
            if above:
                parts.append(self._above[column][row])
            if left:
                parts.append(self._left[row][column])
            self._steps[key] = packed([[number for line in lines for number in line] for lines in zip(*parts)])
        return self._steps[key]

    def whole_before(self, totals, below, row, column):
        """Return the sums of all blocks in the first block rows and block columns, by the totals of a level below."""
        key = (below, row, column)
        if key not in self._whole:
            sums = totals.at(below)
            self._whole[key] = stepped([0] * len(sums), self._step_before(row, column), spared(sums))
        return self._whole[key]

    def _step_before(self, row, column):
        at = (row, column)
        if at not in self._steps_before:
            self._steps_before[at] = packed(self._before[column][row])
        return self._steps_before[at]


def inmost(base, steps):
    """Return the grid of the blocks of tables."""
    return [[_matrix(steps[row][column]) for column in range(base)] for row in range(base)]


def wider(steps, grid):
    """Return the grid of the blocks of a grid within the blocks of tables."""
    return [
        [[_sum_of_lines(terms, inner) for terms in step] for step in line for inner in inner_line]
        for line in steps
        for inner_line in grid
    ]


def _matrix(step):
    found = []
    for terms in step:
        line = [0] * len(step)
        for coefficient, at in terms:
            line[at] += coefficient
        found.append(line)
    return found


def _sum_of_lines(terms, matrix):
    found = [0] * len(matrix)
    for coefficient, at in terms:
        found = [number + coefficient * other for number, other in zip(found, matrix[at])]
    return found


def _running(matrices):
    """Return the sums of the first ones of some matrices, from none to all of them."""
    found = [[[0] * len(matrices[0]) for _ in matrices[0]]]
    for matrix in matrices:
        found.append([[number + other for number, other in zip(*lines)] for lines in zip(found[-1], matrix)])
    return found

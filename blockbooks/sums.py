"""Sums that the tables of a system have at a level, each level worked out once for all that ask."""

from blockbooks.vectors import packed, spared, stepped


class Sums:
    """For each table of a system, the sum of some of its entries at each level.

    The step tells, row by row, of how much of each table's sum one level lower the sum of a table is made.
    """

    def __init__(self, starts, step):
        self.step = step
        self._packed = packed(step)
        # The levels that were asked for, and those below them: nothing else is ever kept.
        self._levels = [starts]

    def at(self, level):
        """Return the list of the sums of a level, one for each table."""
        while len(self._levels) <= level:
            latest = self._levels[-1]
            self._levels.append(stepped([0] * len(latest), self._packed, spared(latest)))
        return list(self._levels[level])

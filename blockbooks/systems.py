"""Systems: the tables of books by indices instead of names, and the two ways to go through levels."""

from blockbooks.corners import Corners
from blockbooks.sums import Sums
from blockbooks.vectors import times

# Making Corners takes as long as rectangles of some near levels do without them.
ENOUGH = 40


class System:
    """Tables that are told by blocks of each other. What it tells never changes.

    A list of shares tells a sum of multiples of its tables; a list of entries tells what each of its
    tables is at one and the same place.
    """

    def __init__(self, base, starts, steps):
        self._base = base
        self.starts = starts
        # By block row and block column, for each table the terms (coefficient, index) of this block.
        self.steps = steps
        self._totals = None
        self._traces = None
        self._corners = None
        # How many levels were asked for rectangles.
        self._asked = 0
        self._parts = {}

    @property
    def base(self):
        """The base, 2 or 3."""
        return self._base

    def totals(self):
        """Return the Sums of all entries."""
        if self._totals is None:
            sides = range(self._base)
            self._totals = Sums(self.starts, self._summed([(row, column) for row in sides for column in sides]))
        return self._totals

    def traces(self):
        """Return the Sums of the entries whose row is their column."""
        if self._traces is None:
            self._traces = Sums(self.starts, self._summed([(side, side) for side in range(self._base)]))
        return self._traces

    def corners(self, level):
        """Return the Corners of all levels, or None as long as so little was asked that they are not worth making."""
        self._asked += level
        if self._corners is None and self._asked > ENOUGH:
            self._corners = Corners(self._base, self.steps, self.totals())
        return self._corners

    def part_of(self, shares):
        """Return a system of those tables alone of which a table and its blocks are made, and its shares there."""
        played = tuple([share != 0 for share in shares])
        if played not in self._parts:
            self._parts[played] = self._new_part([at for at, plays in enumerate(played) if plays])
        part, indices = self._parts[played]
        return part, [shares[at] for at in indices]

    def _new_part(self, indices):
        reached = list(indices)
        done = 0
        while done < len(reached):
            terms = [term for line in self.steps for step in line for term in step[reached[done]]]
            for coefficient, other in terms:
                if coefficient != 0 and other not in reached:
                    reached.append(other)
            done += 1
        reached = sorted(reached)
        for part, others in self._parts.values():
            if others == reached:
                return part, reached
        if len(reached) == len(self.starts):
            return self, reached
        return self._only(reached), reached

    def _only(self, indices):
        """Return a system of those tables alone that have these indices."""
        to = {at: new for new, at in enumerate(indices)}
        steps = [
            [
                [[(number, to[other]) for number, other in step[at] if number != 0] for at in indices]
                for step in line
            ]
            for line in self.steps
        ]
        return System(self._base, [self.starts[at] for at in indices], steps)

    def first_entry(self, shares):
        """Return the entry at level 0 of the table with these shares."""
        return times(shares, self.starts)

    def block_shares(self, shares, row, column):
        """Return the shares of one block of the table with these shares."""
        found = [0] * len(shares)
        for share, terms in zip(shares, self.steps[row][column]):
            for coefficient, at in terms:
                found[at] += share * coefficient
        return found

    def all_blocks(self, shares):
        """Return the list of the shares of all blocks of the table with these shares."""
        sides = range(self._base)
        return [self.block_shares(shares, row, column) for row in sides for column in sides]

    def wider_entries(self, entries, row, column):
        """Return the entries one level further, at the place that is this one within this block."""
        return [sum([coefficient * entries[at] for coefficient, at in terms]) for terms in self.steps[row][column]]

    def all_wider(self, entries):
        """Return the list of the entries one level further, at the places that are this one within a block."""
        sides = range(self._base)
        return [self.wider_entries(entries, row, column) for row in sides for column in sides]

    def _summed(self, spots):
        """Return, for each table, how much of each table there is in its blocks at some spots together."""
        found = [[0] * len(self.starts) for _ in self.starts]
        for row, column in spots:
            for at, terms in enumerate(self.steps[row][column]):
                for coefficient, other in terms:
                    found[at][other] += coefficient
        return found


def system_of(base, named):
    """Return the system of the named tables of a book."""
    sides = range(base)
    steps = [[_step(named, row, column) for column in sides] for row in sides]
    return System(base, [start for _, start, _ in named], steps)


def on_one_system(tables):
    """Return a system that holds the books of all tables, and the list of their shares in it.

    There must be a table, and all must have the same base.
    """
    books = []
    for table in tables:
        if table.book not in books:
            books.append(table.book)
    whole = side_by_side(tables[0].book.base, [book.system for book in books])
    widths = [len(book.names) for book in books]
    shares_there = []
    for table in tables:
        at = books.index(table.book)
        shares_there.append([0] * sum(widths[:at]) + table.shares + [0] * sum(widths[at + 1:]))
    return whole, shares_there


def _step(named, row, column):
    """Return, for each named table, the terms (coefficient, index) of its block in one place."""
    names = [told[0] for told in named]
    blocks_there = [told[2][row][column] for told in named]
    return [[(coefficient, names.index(name)) for coefficient, name in block] for block in blocks_there]


def side_by_side(base, systems):
    """Return a system that holds the tables of several systems of a base, one system behind the other."""
    starts = []
    steps = [[[] for _ in range(base)] for _ in range(base)]
    for system in systems:
        for row in range(base):
            for column in range(base):
                steps[row][column].extend(_moved(system.steps[row][column], len(starts)))
        starts = starts + system.starts
    return System(base, starts, steps)


def _moved(step, by):
    return [[(coefficient, at + by) for coefficient, at in terms] for terms in step]

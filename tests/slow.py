"""A second way to work out nodes, plain tables and relations: place by place, for few named tables."""

from tests.helper import mixed, squares_of


def places_below(base, levels):
    """Return the ascending list of all places of the levels less than a number."""
    return [
        (level, row, column)
        for level in range(levels)
        for row in range(base ** level)
        for column in range(base ** level)
    ]


def entries_below(base, rows, shares, levels):
    """Return the entries of a table at all places of the levels less than a number."""
    if not rows:
        return [0] * len(places_below(base, levels))
    found = []
    for level in range(levels):
        for line in mixed(squares_of(base, rows, level), rows, shares):
            found.extend(line)
    return found


def entries_of_table(table, levels):
    """Return what a table of the program says of itself, at all places of the levels less than a number."""
    return [entry for level in range(levels) for line in table.written(level) for entry in line]


def minus(row, factor, other):
    return [a - factor * b for a, b in zip(row, other)]


def tidied(rows):
    """Return the rows in the one form: the sums of multiples stay, and rows that are 0 fall out."""
    rows = [list(row) for row in rows]
    done = []
    for at in range(len(rows[0]) if rows else 0):
        there = [row for row in rows if row[at]]
        rows = [row for row in rows if not row[at]]
        while len(there) > 1:
            low = min(there, key=lambda row: abs(row[at]))
            there.remove(low)
            there = [minus(row, row[at] // low[at], low) for row in there]
            rows += [row for row in there if not row[at]]
            there = [row for row in there if row[at]] + [low]
        for row in there:
            row = row if row[at] > 0 else [-number for number in row]
            done = [minus(other, other[at] // row[at], row) for other in done] + [row]
    return done


def block_shares(rows, shares, i, j):
    """Return the shares of one block of a table, by the words of point 4."""
    names = [name for name, _, _ in rows]
    found = [0] * len(names)
    for share, (_, _, blocks) in zip(shares, rows):
        for coefficient, name in blocks[i][j]:
            found[names.index(name)] += share * coefficient
    return found


def kin_of(base, rows, shares):
    """Return shares the sums of multiples of which are the kin of a table."""
    found, earlier = tidied([shares]), None
    while found != earlier:
        earlier = found
        blocks = [block_shares(rows, kin, i, j) for kin in found for i in range(base) for j in range(base)]
        found = tidied(found + blocks)
    return found


def plain_entries(base, rows, shares, levels):
    """Return the nodes, and the entries of the named tables of the plain book, for levels less than a number."""
    kin = kin_of(base, rows, shares)
    found = tidied([entries_below(base, rows, some, levels) for some in kin])
    places = places_below(base, levels)
    nodes = [next(place for place, entry in zip(places, row) if entry) for row in found]
    return nodes, found


class Plainly:
    """Sums of levels and rectangles of the named tables of a book, each as the sum over its blocks one level lower."""

    def __init__(self, base, rows):
        self.base = base
        self.told = {name: (start, blocks) for name, start, blocks in rows}
        self.totals, self.traces = {}, {}
        # What is known of the last rectangle that was asked for.
        self.asked, self.known = None, {}

    def total(self, name, level):
        if (name, level) not in self.totals:
            start, blocks = self.told[name]
            sides = range(self.base)
            self.totals[name, level] = start if level == 0 else sum(
                number * self.total(other, level - 1) for i in sides for j in sides for number, other in blocks[i][j])
        return self.totals[name, level]

    def trace(self, name, level):
        if (name, level) not in self.traces:
            start, blocks = self.told[name]
            self.traces[name, level] = start if level == 0 else sum(
                number * self.trace(other, level - 1) for i in range(self.base) for number, other in blocks[i][i])
        return self.traces[name, level]

    def area(self, name, level, first, last):
        if self.asked != (level, first, last):
            self.asked, self.known = (level, first, last), {}
        return self._area(name, level, first, last)

    def _area(self, name, level, first, last):
        """Sum up what of each block lies within the rectangle, told by rows and columns of that block."""
        key = (name, level, first, last)
        if key in self.known:
            return self.known[key]
        side = self.base ** level
        if first == (0, 0) and last == (side - 1, side - 1):
            return self.total(name, level)
        part, found = side // self.base, 0
        for i in range(self.base):
            for j in range(self.base):
                low = max(first[0] - i * part, 0), max(first[1] - j * part, 0)
                high = min(last[0] - i * part, part - 1), min(last[1] - j * part, part - 1)
                if low[0] <= high[0] and low[1] <= high[1]:
                    for number, other in self.told[name][1][i][j]:
                        found += number * self._area(other, level - 1, low, high)
        self.known[key] = found
        return found

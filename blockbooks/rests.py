"""The remainders of the entries of tables: whether they come, where they come first, and how often."""

from blockbooks.checks import check_level, check_modulus, check_rest
from blockbooks.forms import plain
from blockbooks.places import number_of


class Rests:
    """The kin of a table by a modulus: those whose entries have the same remainders count as one, told by its index.

    The table itself has the index 0.
    """

    def __init__(self, starts, blocks):
        # By index, the remainder at level 0, and the lists of the indices of the blocks.
        self.starts = starts
        self.blocks = blocks


def first_rest(table, modulus, rest):
    """Return the first place whose entry has a remainder, or None."""
    check_rest(modulus, rest)
    rests = _rests_by(table, modulus)
    levels = _first_levels(rests, rest)
    level = levels[0]
    if level is None:
        return None
    rows, several = _first_rows(rests, levels)
    columns = _first_columns(rests, rows, several)
    return level, number_of(rows, table.book.base), number_of(columns, table.book.base)


def rests_of(table, modulus):
    """Return the ascending list of all remainders that ever come."""
    check_modulus(modulus)
    return sorted(set(_rests_by(table, modulus).starts))


def count_rest(table, modulus, rest, level):
    """Return how many entries of a level have a remainder."""
    check_rest(modulus, rest)
    check_level(level)
    rests = _rests_by(table, modulus)
    counts = [1] + [0] * (len(rests.starts) - 1)
    for _ in range(level):
        further = [0] * len(counts)
        for count, lines in zip(counts, rests.blocks):
            if count != 0:
                for line in lines:
                    for block in line:
                        further[block] += count
        counts = further
    return sum([count for count, start in zip(counts, rests.starts) if start == rest])


def _rests_by(table, modulus):
    """Return the Rests of a table."""
    form = plain(table)
    system = form.book.system
    sides = range(system.base)
    # Each kin is a sum of multiples of the named tables in one way only, so there are no more than
    # modulus ** rank lists of such multiples by the modulus.
    several = [_by(modulus, form.shares)]
    indices = {several[0]: 0}
    blocks = []
    while len(blocks) < len(several):
        shares = several[len(blocks)]
        lines = [[_by(modulus, system.block_shares(shares, row, column)) for column in sides] for row in sides]
        for block in [block for line in lines for block in line]:
            if block not in indices:
                indices[block] = len(several)
                several.append(block)
        blocks.append([[indices[block] for block in line] for line in lines])
    return Rests([system.first_entry(shares) % modulus for shares in several], blocks)


def _by(modulus, shares):
    return tuple([share % modulus for share in shares])


def _first_levels(rests, rest):
    """Return, by index, the first level at which a remainder comes, or None."""
    made_of = [[] for _ in rests.starts]
    for at, lines in enumerate(rests.blocks):
        for line in lines:
            for block in line:
                made_of[block].append(at)
    levels = [0 if start == rest else None for start in rests.starts]
    latest = [at for at, level in enumerate(levels) if level == 0]
    while latest:
        further = []
        for block in latest:
            for at in made_of[block]:
                if levels[at] is None:
                    levels[at] = levels[block] + 1
                    further.append(at)
        latest = further
    return levels


def _first_rows(rests, levels):
    """Return the block rows of the first row with the remainder, and what lies in it, block row by block row."""
    rows, several = [], [[0]]
    for left in reversed(range(levels[0])):
        # The remainder comes nowhere sooner than it must, so a block has it there exactly if it comes first there.
        row = 0
        while not _blocks_at(rests, levels, several[-1], row, left):
            row += 1
        rows.append(row)
        several.append(_blocks_at(rests, levels, several[-1], row, left))
    return rows, several


def _blocks_at(rests, levels, kin, row, level):
    """Return the blocks in one block row of some kin in which the remainder comes first at a level."""
    return sorted(set([block for at in kin for block in rests.blocks[at][row] if levels[block] == level]))


def _first_columns(rests, rows, several):
    """Return the block columns of the first place of a row with the remainder."""
    # From the end, those alone that lead to the remainder by the block rows that are left.
    leading = [{at: True for at in several[-1]}]
    for row, kin in zip(rows[::-1], several[-2::-1]):
        leading.append({at: True for at in kin if any([block in leading[-1] for block in rests.blocks[at][row]])})
    at, columns = 0, []
    for row, further in zip(rows, leading[-2::-1]):
        column = 0
        while rests.blocks[at][row][column] not in further:
            column += 1
        columns.append(column)
        at = rests.blocks[at][row][column]
    return columns

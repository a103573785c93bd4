"""The first places at which tables are not 0, found block by block instead of place by place."""

from blockbooks.places import digits_of, number_of
from blockbooks.systems import on_one_system
from blockbooks.vectors import Span, first_at, gathered, mixed, times, without_factor


def fresh_entries(system):
    """Return, level by level, the entries that tell all places of it, beside those of earlier levels.

    A table is 0 at all places up to a level exactly if its products with these entries are 0. They
    end with the last level that adds something: a table that is 0 up to it is always 0.
    """
    return gathered(system.starts, system.all_wider, Span())


def telling_entries(tables):
    """Return, for each table, entries by which all sums of multiples of the tables are told apart."""
    system, several_shares = on_one_system(tables)
    telling = [entries for several_entries in fresh_entries(system) for entries in several_entries]
    return [[times(shares, entries) for entries in telling] for shares in several_shares]


def entries_at(system, place):
    """Return the entries of the tables of a system at a place."""
    level, row, column = place
    rows, columns = digits_of(row, system.base, level), digits_of(column, system.base, level)
    entries = system.starts
    for block_row, block_column in zip(rows[::-1], columns[::-1]):
        entries = system.wider_entries(entries, block_row, block_column)
    return entries


def first_place(system, tables, level, fresh):
    """Return the first place of a level at which one of the tables is not 0, None if there is none.

    The tables, told by their shares, must be 0 at all earlier levels: then those entries of a level
    that earlier levels do not tell are enough to see whether they, or their blocks, are 0 at it.
    """
    told = _apart(tables, fresh[level])
    if not told:
        return None
    rows = _first_rows(system, told, fresh[:level])
    columns = _first_columns(system, told, rows)
    return level, number_of(rows, system.base), number_of(columns, system.base)


def nodes_among(system, tables):
    """Return the list of (place, entries) at which a sum of the tables is not 0, but 0 at all earlier places."""
    fresh = fresh_entries(system)
    nodes = []
    for level in range(len(fresh)):
        place = first_place(system, tables, level, fresh)
        while place is not None:
            entries = entries_at(system, place)
            nodes.append((place, entries))
            tables = _without_node(tables, entries)
            place = first_place(system, tables, level, fresh)
    return nodes


def _apart(tables, several_entries):
    """Return tables enough to tell all sums of tables by their products with the entries."""
    span, found = Span(), []
    for shares in tables:
        rest = span.rest_of([times(shares, entries) for entries in several_entries])
        if any(rest):
            span.take(rest)
            found.append(without_factor(shares))
    return found


def _first_rows(system, tables, fresh):
    """Return the block rows of the first row with a place at which one of the tables is not 0."""
    rows = []
    for several_entries in reversed(fresh):
        # A row counts with all its columns, so the blocks of one block row go on together.
        choices = [[(row, column) for column in range(system.base)] for row in range(system.base)]
        row, tables = _first_choice(system, tables, choices, several_entries)
        rows.append(row)
    return rows


def _first_columns(system, tables, rows):
    """Return the block columns of the first place of a row at which one of the tables is not 0."""
    columns = []
    for row, several_entries in zip(rows, _entries_within(system, rows)):
        choices = [[(row, column)] for column in range(system.base)]
        column, tables = _first_choice(system, tables, choices, several_entries)
        columns.append(column)
    return columns


def _first_choice(system, tables, choices, several_entries):
    """Return the number of the first choice of blocks in which there is something, and what there is."""
    for at, blocks in enumerate(choices):
        within = [system.block_shares(shares, row, column) for shares in tables for row, column in blocks]
        found = _apart(within, several_entries)
        if found:
            break
    return at, found


def _entries_within(system, rows):
    """Return, for each block row of a row, the entries that tell all places of the row in its block."""
    within = [system.starts]
    steps = []
    for row in reversed(rows):
        steps.append(within)
        span, wider = Span(), []
        for entries in within:
            for column in range(system.base):
                rest = span.rest_of(system.wider_entries(entries, row, column))
                if any(rest):
                    span.take(rest)
                    wider.append(rest)
        within = wider
    steps.reverse()
    return steps


def _without_node(tables, entries):
    """Return sums of the tables, one less, that are 0 at the place of these entries."""
    worths = [times(shares, entries) for shares in tables]
    at = first_at(worths)
    return [
        without_factor(mixed(worths[at], shares, -worth, tables[at]))
        for k, (shares, worth) in enumerate(zip(tables, worths))
        if k != at
    ]

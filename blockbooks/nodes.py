"""The first places at which tables are not 0, and entries by which tables are told apart."""

from blockbooks.places import side_of
from blockbooks.systems import on_one_system
from blockbooks.vectors import Span, gathered, times, without_factor


def nodes_among(system, worths_of):
    """Yield, in their sequence, the nodes (place, entries) of all sums of some tables.

    The tables must be all those of the system, or have all their blocks among their sums; `worths_of`
    returns what they are at a place, by the entries at it.
    """
    span = Span()
    latest = [((0, 0, 0), system.starts)]
    while latest:
        taken = []
        for place, entries in latest:
            rest = span.rest_of(worths_of(entries))
            if any(rest):
                span.take(rest)
                taken.append((place, entries))
                yield place, entries
        latest = _further(system, taken)


def first_worth(told):
    """Return (level, row, column, entry) of the first place at which a table is not 0, or None.

    The table is told by a tuple (system, shares).
    """
    system, shares = told
    # The first place of a table is always a node of all tables of its system.
    for place, entries in nodes_among(system, lambda entries: entries):
        worth = times(shares, entries)
        if worth != 0:
            return (*place, worth)
    return None


def fresh_entries(system):
    """Return entries by which all sums of multiples of the tables of a system are told apart.

    A table is 0 at all places exactly if its products with these entries are 0.
    """
    return [entries for taken in gathered(system.starts, system.all_wider, Span()) for entries in taken]


def kin_of(system, shares):
    """Return shares of which multiples add up to multiples of all kin of a table."""
    return [kin for taken in gathered(shares, system.all_blocks, Span()) for kin in taken]


def told_apart(tables, several_entries):
    """Return tables enough to tell all sums of tables by their products with the entries."""
    span, found = Span(), []
    for shares in tables:
        rest = span.rest_of([times(shares, entries) for entries in several_entries])
        if any(rest):
            span.take(rest)
            found.append(without_factor(shares))
    return found


def telling_entries(tables):
    """Return, for each table, entries by which all sums of multiples of the tables are told apart."""
    system, several_shares = on_one_system(tables)
    telling = fresh_entries(system)
    return [[times(shares, entries) for entries in telling] for shares in several_shares]


def _further(system, nodes):
    """Return, in their sequence, the places one level further that may be nodes.

    A place whose part within its widest block is no node adds nothing: what its entries are made of
    stands at earlier places of that block.
    """
    sides = range(system.base)
    found = []
    for (level, row, column), entries in nodes:
        side = side_of(system.base, level)
        for i in sides:
            for j in sides:
                place = (level + 1, i * side + row, j * side + column)
                found.append((place, system.wider_entries(entries, i, j)))
    return sorted(found, key=lambda node: node[0])

"""Where two tables part, and which tables are alike."""

from blockbooks.checks import check_bases
from blockbooks.nodes import first_worth, telling_entries
from blockbooks.systems import on_one_system
from blockbooks.vectors import mixed


def parting(table, other_table):
    """Return (level, row, column, difference) of the first place where two tables are unlike, or None."""
    check_bases([table, other_table])
    system, (shares, other_shares) = on_one_system([table, other_table])
    return first_worth((system, mixed(1, shares, -1, other_shares)))


def are_alike(table, other_table):
    """Return whether two tables have the same entries at all places."""
    return parting(table, other_table) is None


def classes(tables):
    """Return the list of the lists of the indices of alike tables."""
    if not tables:
        return []
    check_bases(tables)
    told, found = [], []
    for at, entries in enumerate(telling_entries(tables)):
        if entries in told:
            found[told.index(entries)].append(at)
        else:
            told.append(entries)
            found.append([at])
    return found

"""The last levels at which tables are not 0, and the levels from which on they are the same."""

from blockbooks.checks import check_bases
from blockbooks.nodes import fresh_entries, kin_of, told_apart
from blockbooks.systems import on_one_system
from blockbooks.vectors import mixed


def last_level(table):
    """Return the last level at which a table is not 0 everywhere, -1 without such a level, None without a last one."""
    return _last_level(table.book.system, table.shares)


def alike_from(table, other_table):
    """Return the least level from which on two tables have the same entries at all levels, or None."""
    check_bases([table, other_table])
    system, (shares, other_shares) = on_one_system([table, other_table])
    last = _last_level(system, mixed(1, shares, -1, other_shares))
    return None if last is None else last + 1


def _last_level(system, shares):
    telling = fresh_entries(system)
    kin = told_apart(kin_of(system, shares), telling)
    level = -1
    while kin:
        # What the blocks of all kin tell of the next levels is less than what the kin tell, or stays so for ever.
        blocks = told_apart([block for some in kin for block in system.all_blocks(some)], telling)
        if len(blocks) == len(kin):
            return None
        kin = blocks
        level += 1
    return level

"""How the sums of the entries of levels, and their traces, go on from level to level."""

from blockbooks.areas import total_at, trace_at
from blockbooks.checks import check_level, check_modulus
from blockbooks.vectors import Span, times


def total_rule(table):
    """Return the shortest list of integers by which the sums of all entries go on from level to level."""
    return _rule([total_at(table, level) for level in range(2 * len(table.shares))])


def trace_rule(table):
    """Return the shortest list of integers by which the traces go on from level to level."""
    return _rule([trace_at(table, level) for level in range(2 * len(table.shares))])


def far_total(table, level, modulus):
    """Return the remainder of the sum of all entries of a level by a modulus."""
    return _far_sum(table, table.book.system.totals(), level, modulus)


def far_trace(table, level, modulus):
    """Return the remainder of the trace of a level by a modulus."""
    return _far_sum(table, table.book.system.traces(), level, modulus)


def _rule(sums):
    """Return the shortest rule of sums that go on by a rule of at most half as many numbers as they are."""
    width = len(sums) // 2
    span = Span()
    for level in range(width + 1):
        # Behind the sums from a level on stands which level it is, to tell of which levels they are made.
        tags = [1 if other == level else 0 for other in range(width + 1)]
        rest = span.rest_of(sums[level:level + width] + tags)
        if not any(rest[:width]):
            # All sums are integers, and no shorter rule makes them: then the rule is one of integers.
            return [-rest[width + other] // rest[width + level] for other in reversed(range(level))]
        span.take(rest)
    return []


def _far_sum(table, sums, level, modulus):
    """Return the remainder of one of the sums of a level of a table."""
    check_level(level)
    check_modulus(modulus)
    shares, step = table.shares, sums.step
    # Twice as many levels each time, since the steps may be taken in any sequence.
    while level > 0:
        columns = [list(column) for column in zip(*step)]
        if level % 2 == 1:
            shares = _stepped(shares, columns, modulus)
        step = [_stepped(line, columns, modulus) for line in step]
        level = level // 2
    return table.book.system.first_entry(shares) % modulus


def _stepped(shares, columns, modulus):
    return [times(shares, column) % modulus for column in columns]

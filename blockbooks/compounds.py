"""Systems made of other systems: sums, turned and framed ones, and those whose tables are pairs of tables.

A table is told here by a tuple (system, shares).
"""

from blockbooks.systems import System, side_by_side


def sum_of(base, several_told, numbers):
    """Return the sum of multiples of tables of a base."""
    whole = side_by_side(base, [system for system, _ in several_told])
    shares = [number * share for number, (_, some) in zip(numbers, several_told) for share in some]
    return whole, shares


def turned(told):
    """Return a table with rows and columns exchanged."""
    system, shares = told
    sides = range(system.base)
    steps = [[system.steps[column][row] for column in sides] for row in sides]
    return System(system.base, system.starts, steps), shares


def frame_of(start, system, blocks_there):
    """Return the table with a start and with blocks that are told, row by row, by their shares in a system."""
    base, width = system.base, len(system.starts)
    steps = [
        [system.steps[row][column] + [_terms(blocks_there[row * base + column])] for column in range(base)]
        for row in range(base)
    ]
    return System(base, system.starts + [start], steps), [0] * width + [1]


def product_of(told, other_told):
    """Return the product of two square tables, rows times columns, at every level."""
    system, other = told[0], other_told[0]
    sides = range(system.base)
    steps = [
        [_paired_step(system, other, [((row, at), (at, column)) for at in sides]) for column in sides]
        for row in sides
    ]
    return System(system.base, _paired(system.starts, other.starts), steps), _paired(told[1], other_told[1])


def entrywise_of(told, other_told):
    """Return the table of the products of the entries of two tables at the same place."""
    system, other = told[0], other_told[0]
    sides = range(system.base)
    steps = [[_paired_step(system, other, [((row, column), (row, column))]) for column in sides] for row in sides]
    return System(system.base, _paired(system.starts, other.starts), steps), _paired(told[1], other_told[1])


def _terms(shares):
    return [(share, at) for at, share in enumerate(shares) if share != 0]


def _paired(numbers, others):
    """Return the products of all pairs of numbers, in the sequence in which all pairs of tables stand."""
    return [number * other for number in numbers for other in others]


def _paired_step(system, other, spots):
    """Return, for each pair of tables, the terms of the sum of the products of their blocks at pairs of spots."""
    width = len(other.starts)
    step_pairs = [(system.steps[row][column], other.steps[i][j]) for (row, column), (i, j) in spots]
    return [
        _paired_terms([(step[at], other_step[other_at]) for step, other_step in step_pairs], width)
        for at in range(len(system.starts))
        for other_at in range(width)
    ]


def _paired_terms(pairs, width):
    """Return the sum of the products of pairs of lists of terms, with one term for each pair of tables."""
    found = {}
    for terms, other_terms in pairs:
        for coefficient, at in terms:
            for other_coefficient, other_at in other_terms:
                pair = at * width + other_at
                found[pair] = found.get(pair, 0) + coefficient * other_coefficient
    return [(coefficient, pair) for pair, coefficient in found.items()]

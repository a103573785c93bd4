"""Vectors: lists of integers of one length, and the spans of several of them."""

from math import gcd

# So many numbers of a vector are taken at once where speed counts most, each by a name of its own.
GROUP = 6


def times(numbers, others):
    """Return the sum of the products of the numbers of two vectors."""
    return sum([number * other for number, other in zip(numbers, others)])


def mixed(factor, numbers, other_factor, others):
    """Return the sum of multiples of two vectors."""
    return [factor * number + other_factor * other for number, other in zip(numbers, others)]


def first_at(numbers):
    """Return the index of the first number that is not 0. There must be one."""
    at = 0
    while numbers[at] == 0:
        at += 1
    return at


def without_factor(numbers):
    """Return a vector divided by the greatest common factor of its numbers."""
    factor = 0
    for number in numbers:
        factor = gcd(factor, number)
    return [number // factor for number in numbers] if factor > 1 else list(numbers)


def packed(matrix):
    """Return a matrix in groups of columns, each with the index of its first one, without groups that are 0."""
    width = len(matrix[0]) if matrix else 0
    rows = [spared(row) for row in matrix]
    groups = [(at, [tuple(row[at:at + GROUP]) for row in rows]) for at in range(0, width, GROUP)]
    return [(at, group) for at, group in groups if any([any(row) for row in group])]


def spared(numbers):
    """Return a vector with as many numbers 0 behind it as its last group may want."""
    return [*numbers, 0, 0, 0, 0, 0]


def stepped(total, groups, numbers):
    """Return the sum of a vector and of the product of a packed matrix and another one, which must be spared."""
    for at, rows in groups:
        u, v, w, x, y, z = numbers[at:at + GROUP]
        total = [
            number + a * u + b * v + c * w + d * x + e * y + f * z
            for number, (a, b, c, d, e, f) in zip(total, rows)
        ]
    return total


class Span:
    """All vectors of which a multiple is a sum of multiples of those that were taken."""

    def __init__(self):
        # Each row has a 0 at the index of every row before it, so one pass through them is enough.
        self._rows = []

    def rest_of(self, vector):
        """Return what a vector, or a multiple of it, adds to the span: all 0 if it adds nothing."""
        if len(self._rows) == len(vector):
            # Nothing is missing any more.
            return [0] * len(vector)
        rest = vector
        for at, row in self._rows:
            if rest[at] != 0:
                factor = gcd(row[at], rest[at])
                # Common factors are taken out each time, since the numbers would double in length each time.
                rest = without_factor(mixed(row[at] // factor, rest, -(rest[at] // factor), row))
        return rest

    def take(self, rest):
        """Make the span larger by what `rest_of` has returned, which must not be all 0."""
        self._rows.append((first_at(rest), rest))


def gathered(first, onward, kept):
    """Return, round by round, what a span or a lattice takes of a vector and of all that comes from it.

    A round is made of what `onward` returns for each vector that was taken in the round before.
    """
    rounds = []
    latest = [first]
    while latest:
        taken = []
        for vector in latest:
            rest = kept.rest_of(vector)
            if any(rest):
                kept.take(rest)
                taken.append(rest)
        if taken:
            rounds.append(taken)
        latest = [further for rest in taken for further in onward(rest)]
    return rounds

"""What several tests need: books, a second way to work out tables, and a limit of time."""

import contextlib
import functools
import random
import signal

from blockbooks.books import Book
from blockbooks.forms import plain
from blockbooks.tables import Table, table_named

ROWS_OF_BITS = [
    ("x", 0, [[[(1, "x")], [(1, "x"), (1, "p")]], [[(1, "x"), (1, "p")], [(1, "x")]]]),
    ("n", 0, [[[(1, "n")], [(1, "n")]], [[(1, "n")], [(1, "n"), (1, "p")]]]),
    ("r", 0, [[[(1, "r")], [(1, "r")]], [[(1, "r"), (1, "p")], [(1, "r"), (1, "p")]]]),
    ("c", 0, [[[(1, "c")], [(1, "c"), (1, "p")]], [[(1, "c")], [(1, "c"), (1, "p")]]]),
    ("p", 1, [[[(2, "p")], [(2, "p")]], [[(2, "p")], [(2, "p")]]]),
]

ROWS_OF_SIGNS = [
    ("h", 1, [[[(1, "h")], [(1, "h")]], [[(1, "h")], [(-1, "h")]]]),
    ("d", 1, [[[(2, "d")], []], [[], [(2, "d")]]]),
    ("s", 1, [[[(1, "s")], []], [[(1, "s")], [(1, "s")]]]),
    ("m", 1, [[[(1, "m")], []], [[(-1, "m")], [(1, "m")]]]),
]

# Digits of the base 3: rows, columns, the sum of digits without carrying, and the powers of 3.
ROWS_OF_THREES = [
    ("r", 0, [[[(1, "r")] + [(i, "p")] * (i > 0) for _ in range(3)] for i in range(3)]),
    ("c", 0, [[[(1, "c"), (j, "p")] for j in range(3)] for _ in range(3)]),
    ("x", 0, [[[(1, "x"), ((i + j) % 3, "p")] for j in range(3)] for i in range(3)]),
    ("p", 1, [[[(3, "p")] for _ in range(3)] for _ in range(3)]),
    ("s", 1, [[[(1, "s")], [], []], [[(1, "s")], [(1, "s")], []], [[(1, "s")], [(2, "s")], [(1, "s")]]]),
    ("m", 1, [[[(1, "m")], [], []], [[(-1, "m")], [(1, "m")], []], [[(1, "m")], [(-2, "m")], [(1, "m")]]]),
]


def zero_blocks(base):
    """Return blocks of the right form, all of them empty."""
    return [[[] for _ in range(base)] for _ in range(base)]


def random_rows(seed, base, many):
    """Return named tables of all sorts, the same ones for each seed."""
    chance = random.Random(seed)
    names = chance.sample("abcdefghijklmnopqrstuvwxyz", many)

    def block():
        return [(chance.randint(-9, 9), chance.choice(names)) for _ in range(chance.randint(0, 4))]

    return [
        (name, chance.randint(-99, 99), [[block() for _ in range(base)] for _ in range(base)])
        for name in names
    ]


def random_shares(seed, many):
    """Return shares, the same ones for each seed."""
    chance = random.Random(1000 + seed)
    return [chance.randint(-99, 99) for _ in range(many)]


def squares_of(base, rows, level):
    """Return the square of each named table at a level, put together out of blocks as point 4 tells."""
    squares = {name: [[start]] for name, start, _ in rows}
    for n in range(level):
        squares = {name: put_together(base, blocks, squares, base ** n) for name, _, blocks in rows}
    return squares


def put_together(base, blocks, squares, side):
    square = [[0] * (base * side) for _ in range(base * side)]
    for i in range(base):
        for j in range(base):
            for coefficient, name in blocks[i][j]:
                for row in range(side):
                    for column in range(side):
                        square[i * side + row][j * side + column] += coefficient * squares[name][row][column]
    return square


def mixed(squares, rows, shares):
    """Return the sum of the multiples of the squares of the named tables."""
    side = len(squares[rows[0][0]])
    return [
        [sum(share * squares[told[0]][row][column] for share, told in zip(shares, rows)) for column in range(side)]
        for row in range(side)
    ]


def entry_of(base, rows, shares, level, row, column):
    """Return one entry of a level by the words of point 4, from the last digits on."""
    told = {name: (start, blocks) for name, start, blocks in rows}

    @functools.lru_cache(maxsize=None)
    def of_named(name, n):
        start, blocks = told[name]
        if n == 0:
            return start
        block = blocks[row // base ** (n - 1) % base][column // base ** (n - 1) % base]
        return sum(coefficient * of_named(other, n - 1) for coefficient, other in block)

    return sum(share * of_named(name, level) for share, (name, _, _) in zip(shares, rows))


def assert_equality(test, one, other, wanted):
    """Check that both signs, both ways round, say whether two things are equal."""
    test.assertIs(one == other, wanted)
    test.assertIs(other == one, wanted)
    test.assertIs(one != other, not wanted)
    test.assertIs(other != one, not wanted)


@contextlib.contextmanager
def at_once(seconds=20):
    """Fail if the work within takes long, so that a far level cannot hold up all tests."""

    def stop(_number, _frame):
        raise AssertionError(f"not done after {seconds} seconds")

    earlier = signal.signal(signal.SIGALRM, stop)
    signal.alarm(seconds)
    try:
        yield
    finally:
        signal.alarm(0)
        signal.signal(signal.SIGALRM, earlier)


def sparse_rows(seed, base, many):
    """Return named tables most of whose blocks are empty, so that much comes late, the same ones for each seed."""
    chance = random.Random(2000 + seed)
    names = chance.sample("abcdefghijklmnopqrstuvwxyz", many)
    full = chance.choice([1, 2, 4]) / (2 * base * base)

    def block():
        few = chance.randint(1, 2) if chance.random() < full else 0
        return [(chance.choice([-9, -2, -1, 1, 1, 2, 3, 6]), chance.choice(names)) for _ in range(few)]

    return [
        (name, chance.choice([0, 0, 1, -4, 6]), [[block() for _ in range(base)] for _ in range(base)])
        for name in names
    ]


def chain_rows(base, spots, coefficients, start, names="abcdefghijklmnopqrstuvwxyz"):
    """Return named tables the first one of which is not 0 at one place of one level alone.

    The spots are the blocks (row, column) in which the place lies, the widest one first; the entry
    there is the product of the coefficients and the start.
    """
    rows = []
    for at, ((i, j), coefficient) in enumerate(zip(spots, coefficients)):
        blocks = zero_blocks(base)
        blocks[i][j] = [(coefficient, names[at + 1])]
        rows.append((names[at], 0, blocks))
    return rows + [(names[len(spots)], start, zero_blocks(base))]


def place_of(base, spots):
    """Return the place (level, row, column) that lies in these blocks."""
    row = column = 0
    for i, j in spots:
        row, column = row * base + i, column * base + j
    return len(spots), row, column


def assert_error(test, kind, value, call, *told, **named):
    """Check that a call raises an error of this very class with this value."""
    with test.assertRaises(kind) as caught:
        call(*told, **named)
    test.assertIs(type(caught.exception), kind)
    test.assertEqual(caught.exception.value, value)
    test.assertIs(type(caught.exception.value), type(value))


def book_of(kind):
    """Return the book of the bits, of the signs or of the threes, made anew."""
    base, rows = {"bits": (2, ROWS_OF_BITS), "signs": (2, ROWS_OF_SIGNS), "threes": (3, ROWS_OF_THREES)}[kind]
    return Book(base, rows)


def spot_table(base, spots, number=1):
    """Return a table, in a book of its own, that is a number at one place of one level and 0 elsewhere."""
    return table_named(Book(base, chain_rows(base, spots, [1] * len(spots), number)), "a")


def nothing(base):
    """Return the table that is always 0 of a book without named tables."""
    return Table(Book(base, []), [])


def ring_rows(base, many, spot=(0, 0), start=1, names="abcdefghijklmnopqrstuvwxyz"):
    """Return named tables that lead to one another by one block in a ring; all but the first start with 0."""
    rows = []
    for at in range(many):
        blocks = zero_blocks(base)
        blocks[spot[0]][spot[1]] = [(1, names[(at + 1) % many])]
        rows.append((names[at], start if at == 0 else 0, blocks))
    return rows


def random_table(seed, base, many, sparse=False):
    """Return a table of a book of named tables of all sorts, the same one for each seed."""
    rows = sparse_rows(seed, base, many) if sparse else random_rows(seed, base, many)
    return Table(Book(base, rows), random_shares(seed, many))


def blocks_of_table(table):
    """Return the lists of the blocks of a table, as tables of the same book, by the words of point 4."""
    base, book = table.book.base, table.book
    found = []
    for i in range(base):
        line = []
        for j in range(base):
            shares = [0] * len(book.names)
            for share, name in zip(table.shares, book.names):
                for coefficient, other in book.blocks_of(name)[i][j]:
                    shares[book.names.index(other)] += share * coefficient
            line.append(Table(book, shares))
        found.append(line)
    return found


def near_levels(base):
    """Return the levels that are small enough to be written out often."""
    return range({2: 5, 3: 4}[base])


def multiplied(rows, others):
    """Return the product of two squares, rows times columns."""
    columns = list(zip(*others))
    return [[sum(a * b for a, b in zip(row, column)) for column in columns] for row in rows]


def turned(rows):
    return [list(column) for column in zip(*rows)]


def combined(squares, numbers):
    """Return the sum of multiples of squares."""
    return [[sum(n * entry for n, entry in zip(numbers, entries)) for entries in zip(*lines)] for lines in zip(*squares)]


def unit_square(side):
    return [[int(row == column) for column in range(side)] for row in range(side)]


def spots_far(seed, base, level, many=4):
    """Return some places (row, column) of a level, its ends among them, the same ones for each seed."""
    chance = random.Random(seed)
    last = base ** level - 1
    found = [(0, 0), (last, last), (0, last)]
    return found + [(chance.randint(0, last), chance.randint(0, last)) for _ in range(many)]


def assert_plain(test, table):
    """Check that a table is the very one that `plain` returns for it."""
    test.assertIs(type(table), Table)
    test.assertEqual(plain(table), table)

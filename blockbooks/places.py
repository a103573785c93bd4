"""Rows and columns of a level: how far they go, and the blocks in which they lie."""


def side_of(base, level):
    """Return the number of the rows of a level."""
    side = 1
    for _ in range(level):
        side = side * base
    return side


def digits_of(number, base, level):
    """Return the block rows of a row, or the block columns of a column, the widest block first."""
    digits = []
    for _ in range(level):
        digits.append(number % base)
        number = number // base
    digits.reverse()
    return digits


def number_of(digits, base):
    """Return the row with these block rows, or the column with these block columns."""
    number = 0
    for digit in digits:
        number = number * base + digit
    return number

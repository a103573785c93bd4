"""The checks that the document names, each in the sequence that it tells."""

from blockbooks.errors import InvalidArea, InvalidBase, InvalidBlocks, InvalidLevel
from blockbooks.errors import InvalidName, InvalidNumber, InvalidPlace, InvalidRest, UnlikeBases
from blockbooks.places import side_of


def check_base(base):
    """Raise InvalidBase for a number that is neither 2 nor 3."""
    if base not in (2, 3):
        raise InvalidBase(base)


def check_book(base, named):
    """Raise the error of the first thing that is wrong in what a book is to be made of."""
    check_base(base)
    names = [told[0] for told in named]
    _check_names(names)
    for name, _, blocks in named:
        if not _are_blocks(base, names, blocks):
            raise InvalidBlocks(name)


def check_level(level):
    """Raise InvalidLevel for a negative level."""
    if level < 0:
        raise InvalidLevel(level)


def check_place(base, level, spot):
    """Raise InvalidPlace for a tuple (row, column) that is not within a level."""
    row, column = spot
    side = side_of(base, level)
    if not (0 <= row < side and 0 <= column < side):
        raise InvalidPlace(spot)


def check_area(base, level, first, last):
    """Raise the error of the first thing that is wrong with the corners of a rectangle of a level."""
    check_place(base, level, first)
    check_place(base, level, last)
    if last[0] < first[0] or last[1] < first[1]:
        raise InvalidArea((first, last))


def check_bases(tables):
    """Raise UnlikeBases for the first table whose base is not that of the first one. There must be a table."""
    for table in tables:
        check_same_base(tables[0].book.base, table)


def check_frame(blocks):
    """Raise the error of the first thing that is wrong in lists of tables that are to be blocks."""
    if not blocks:
        raise InvalidNumber(0)
    base = blocks[0][0].book.base
    if len(blocks) != base:
        raise InvalidNumber(len(blocks))
    for line in blocks:
        if len(line) != base:
            raise InvalidNumber(len(line))
    check_bases([table for line in blocks for table in line])


def check_side(names, side):
    """Raise InvalidName for the first string of a side that is neither a name nor a name with ' behind it."""
    for _, word in side:
        for part in word:
            if part not in names and part not in [name + "'" for name in names]:
                raise InvalidName(part)


def check_rest(modulus, rest):
    """Raise the error of the first thing that is wrong with a remainder by a modulus."""
    check_modulus(modulus)
    if not 0 <= rest < modulus:
        raise InvalidRest(rest)


def check_modulus(modulus):
    """Raise InvalidNumber for a modulus less than 1."""
    if modulus < 1:
        raise InvalidNumber(modulus)


def check_title(title):
    """Raise InvalidName for a title that is not one letter from a to z."""
    if not _is_letter(title):
        raise InvalidName(title)


def check_same_base(base, table):
    """Raise UnlikeBases for a table of another base."""
    if table.book.base != base:
        raise UnlikeBases((base, table.book.base))


def _check_names(names):
    for at, name in enumerate(names):
        check_title(name)
        if name in names[:at]:
            raise InvalidName(name)


def _is_letter(name):
    return len(name) == 1 and "a" <= name <= "z"


def _are_blocks(base, names, blocks):
    if len(blocks) != base or any([len(line) != base for line in blocks]):
        return False
    return all([name in names for line in blocks for block in line for _, name in block])

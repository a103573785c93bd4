"""The checks that the document names, each in the sequence that it tells."""

from blockbooks.errors import InvalidArea, InvalidBase, InvalidBlocks, InvalidLevel
from blockbooks.errors import InvalidName, InvalidPlace, UnlikeBases
from blockbooks.places import side_of


def check_book(base, named):
    """Raise the error of the first thing that is wrong in what a book is to be made of."""
    if base not in (2, 3):
        raise InvalidBase(base)
    names = [told[0] for told in named]
    _check_names(names)
    for name, _, blocks in named:
        if not _are_blocks(base, names, blocks):
            raise InvalidBlocks(name)


def check_level(level):
    """Raise InvalidLevel for a negative level."""
    if level < 0:
        raise InvalidLevel(level)


def check_place(base, level, spot):
    """Raise InvalidPlace for a tuple (row, column) that is not within a level."""
    row, column = spot
    side = side_of(base, level)
    if not (0 <= row < side and 0 <= column < side):
        raise InvalidPlace(spot)


def check_area(base, level, first, last):
    """Raise the error of the first thing that is wrong with the corners of a rectangle of a level."""
    check_place(base, level, first)
    check_place(base, level, last)
    if last[0] < first[0] or last[1] < first[1]:
        raise InvalidArea((first, last))


def check_bases(tables):
    """Raise UnlikeBases for the first table whose base is not that of the first one. There must be a table."""
    bases = [table.book.base for table in tables]
    for base in bases:
        if base != bases[0]:
            raise UnlikeBases((bases[0], base))


def _check_names(names):
    for at, name in enumerate(names):
        if not _is_letter(name) or name in names[:at]:
            raise InvalidName(name)


def _is_letter(name):
    return len(name) == 1 and "a" <= name <= "z"


def _are_blocks(base, names, blocks):
    if len(blocks) != base or any([len(line) != base for line in blocks]):
        return False
    return all([name in names for line in blocks for block in line for _, name in block])

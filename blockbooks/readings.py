"""Books and tables by their texts."""

from blockbooks.books import Book
from blockbooks.errors import BlockError, Unreadable
from blockbooks.tables import Table

DIGITS = "0123456789"
MOST_DIGITS = 40


def read_book(text):
    """Return the book with a text."""
    base, colon, named = text.partition(":")
    if colon == "":
        raise Unreadable(text)
    several = named.split(";") if named != "" else []
    try:
        return Book(_integer(base), [_read_named(some) for some in several])
    except BlockError:
        raise Unreadable(text) from None


def read_table(text):
    """Return the table with a text."""
    shares, _, book = text.partition(" of ")
    try:
        return Table(read_book(book), [_integer(word) for word in shares.split(" ")] if shares != "none" else [])
    except BlockError:
        raise Unreadable(text) from None


def _read_named(text):
    """Return the name, the start and the blocks of a text, which begins with a space."""
    head, bar, lines = text.partition(" | ")
    words = head.split(" ")
    if bar == "" or len(words) != 3 or words[0] != "":
        raise Unreadable(text)
    blocks = [[_read_block(block) for block in line.split(" , ")] for line in lines.split(" / ")]
    return words[1], _integer(words[2]), blocks


def _read_block(text):
    return [_read_term(term) for term in text.split(" + ")] if text != "0" else []


def _read_term(text):
    words = text.split(" ")
    if len(words) != 2:
        raise Unreadable(text)
    return _integer(words[0]), words[1]


def _integer(text):
    """Return the integer that is written by a text, in the one way in which it is written."""
    digits = text.removeprefix("-")
    if digits == "" or len(digits) > MOST_DIGITS or not all([digit in DIGITS for digit in digits]):
        raise Unreadable(text)
    if str(int(text)) != text:
        raise Unreadable(text)
    return int(text)

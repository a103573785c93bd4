"""The texts of books and tables."""


def show_book(book):
    """Return the text of a book."""
    named = [_show_named(name, book.start_of(name), book.blocks_of(name)) for name in book.names]
    return f"{book.base}:" + ";".join(named)


def show_table(table):
    """Return the text of a table."""
    shares = " ".join([str(share) for share in table.shares]) or "none"
    return shares + " of " + show_book(table.book)


def _show_named(name, start, blocks):
    lines = [" , ".join([_show_block(block) for block in line]) for line in blocks]
    return f" {name} {start} | " + " / ".join(lines)


def _show_block(block):
    return " + ".join([f"{coefficient} {name}" for coefficient, name in block]) or "0"

"""The plain book of a table, and the nodes by which it is made."""

from blockbooks.books import Book
from blockbooks.lattices import Lattice
from blockbooks.nodes import nodes_among
from blockbooks.tables import Table
from blockbooks.vectors import Span, gathered, times

LETTERS = "abcdefghijklmnopqrstuvwxyz"


def plain(table):
    """Return the plain table of a table."""
    system = table.book.system
    kin = Lattice(len(table.shares))
    gathered(table.shares, system.all_blocks, kin)
    nodes = [entries for _, entries in nodes_among(system, kin.rows())]
    lattice = _lattice_at(nodes, kin.rows())
    several_shares = [row[len(nodes):] for row in lattice.rows()]
    named = [
        (name, system.first_entry(shares), _plain_blocks(system, nodes, lattice, shares))
        for name, shares in zip(LETTERS, several_shares)
    ]
    return Table(Book(system.base, named), lattice.parts_of(_entries_of(table.shares, nodes)))


def rank_of(table):
    """Return the number of the nodes of a table."""
    return len(nodes_of(table))


def nodes_of(table):
    """Return the ascending list of the nodes of a table."""
    system = table.book.system
    rounds = gathered(table.shares, system.all_blocks, Span())
    kin = [shares for taken in rounds for shares in taken]
    return [place for place, _ in nodes_among(system, kin)]


def _entries_of(shares, nodes):
    return [times(shares, entries) for entries in nodes]


def _lattice_at(nodes, kin):
    """Return the lattice of what all kin are at the nodes, with their shares behind it.

    Its rows are the tables of the plain book, since a kin that is 0 at all nodes is always 0.
    """
    lattice = Lattice(len(nodes))
    for shares in kin:
        lattice.take(_entries_of(shares, nodes) + shares)
    return lattice


def _plain_blocks(system, nodes, lattice, shares):
    """Return the lists of blocks of one of the tables of the plain book, told by its shares in the system."""
    sides = range(system.base)
    return [
        [_plain_block(nodes, lattice, system.block_shares(shares, row, column)) for column in sides]
        for row in sides
    ]


def _plain_block(nodes, lattice, shares):
    parts = lattice.parts_of(_entries_of(shares, nodes))
    return [(part, name) for part, name in zip(parts, LETTERS) if part != 0]

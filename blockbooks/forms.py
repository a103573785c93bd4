"""The plain book of a table, and the nodes by which it is made."""

from blockbooks.books import Book
from blockbooks.lattices import Lattice
from blockbooks.nodes import kin_of, nodes_among
from blockbooks.tables import Table
from blockbooks.vectors import Span, gathered, times

LETTERS = "abcdefghijklmnopqrstuvwxyz"


def plain(table):
    """Return the plain table of a table."""
    return plain_of((table.book.system, table.shares))


def plain_of(told):
    """Return the plain table of a table that is told by a tuple (system, shares)."""
    system, shares = told
    kin = Lattice(len(shares))
    gathered(shares, system.all_blocks, kin)
    rows = kin.rows()
    nodes = [entries for _, entries in nodes_among(system, lambda at_place: _worths(rows, at_place))]
    lattice = _lattice_at(nodes, rows)
    several_shares = [row[len(nodes):] for row in lattice.rows()]
    named = [
        (name, system.first_entry(some), _plain_blocks(system, nodes, lattice, some))
        for name, some in zip(LETTERS, several_shares)
    ]
    return Table(Book(system.base, named), lattice.parts_of(_entries_of(shares, nodes)))


def plainly_told(table):
    """Return a table as a tuple (system, shares), by as few named tables as can be."""
    form = plain(table)
    return form.book.system, form.shares


def rank_of(table):
    """Return the number of the nodes of a table."""
    return len(nodes_of(table))


def nodes_of(table):
    """Return the ascending list of the nodes of a table."""
    system = table.book.system
    kin = kin_of(system, table.shares)
    return [place for place, _ in nodes_among(system, lambda at_place: _worths(kin, at_place))]


def _worths(kin, entries):
    """Return what each kin is at the place of these entries."""
    return [times(shares, entries) for shares in kin]


def _entries_of(shares, nodes):
    """Return what a table is at each of the nodes."""
    return [times(shares, entries) for entries in nodes]


def _lattice_at(nodes, kin):
    """Return the lattice of what all kin are at the nodes, with their shares behind it.

    Its rows are the tables of the plain book, since a kin that is 0 at all nodes is always 0.
    """
    lattice = Lattice(len(nodes))
    for shares in kin:
        lattice.take(_entries_of(shares, nodes) + shares)
    return lattice


def _plain_blocks(system, nodes, lattice, shares):
    """Return the lists of blocks of one of the tables of the plain book, told by its shares in the system."""
    sides = range(system.base)
    return [
        [_plain_block(nodes, lattice, system.block_shares(shares, row, column)) for column in sides]
        for row in sides
    ]


def _plain_block(nodes, lattice, shares):
    parts = lattice.parts_of(_entries_of(shares, nodes))
    return [(part, name) for part, name in zip(parts, LETTERS) if part != 0]

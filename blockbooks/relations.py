"""Sums of tables that are always 0, and tables as mixtures of others."""

from blockbooks.checks import check_bases
from blockbooks.lattices import Lattice
from blockbooks.nodes import telling_entries


def relations(tables):
    """Return the list of the lists of integers whose products with the tables add up to 0 at all places."""
    if not tables:
        return []
    check_bases(tables)
    told = telling_entries(tables)
    width = len(told[0])
    return [row[width:] for row in _lattice_of_sums(told, width).rows() if not any(row[:width])]


def mixture(wanted, tables):
    """Return a list of integers whose products with the tables add up to a wanted table, or None."""
    check_bases([wanted, *tables])
    wanted_entries, *told = telling_entries([wanted, *tables])
    width = len(wanted_entries)
    # The lattice adds to the negative of the wanted table until nothing is left of it, and counts behind
    # it what it adds; the rows of `relations` come last in it and lower these numbers as is told of them.
    missing = [-entry for entry in wanted_entries] + [0] * len(tables)
    rest = _lattice_of_sums(told, width).rest_of(missing)
    return None if any(rest[:width]) else rest[width:]


def _lattice_of_sums(told, width):
    """Return the lattice of the entries of all sums of tables, each with the numbers of the sum behind it."""
    many = len(told)
    lattice = Lattice(width + many)
    for at, entries in enumerate(told):
        lattice.take(entries + [1 if other == at else 0 for other in range(many)])
    return lattice

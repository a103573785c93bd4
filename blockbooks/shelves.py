"""Shelves: tables of one base by titles, and what was done to them."""

from blockbooks.checks import check_base, check_same_base, check_title
from blockbooks.errors import InvalidName, InvalidNumber, NothingToUndo, TooWide
from blockbooks.forms import rank_of
from blockbooks.parting import are_alike


class Shelf:
    """Tables of one base by titles."""

    def __init__(self, base):
        check_base(base)
        self._base = base
        # What rank the tables may have, None if any.
        self._most = None
        self._tables = {}
        self._calls = []
        # For each call the table that it took from its title, None if there was none.
        self._earlier = []

    @property
    def titles(self):
        """The ascending list of the titles."""
        return sorted(self._tables)

    def put(self, title, table):
        """Put a table under a title, in the place of an earlier one if there is one."""
        self._check_put(title, table)
        self._note(("put", title, table), title)
        self._tables[title] = table

    def drop(self, title):
        """Take a title away."""
        self._check_title(title)
        self._note(("drop", title), title)
        del self._tables[title]

    def undo(self):
        """Take back the last call of put or drop that was not taken back yet."""
        if not self._calls:
            raise NothingToUndo(0)
        call = self._calls.pop()
        earlier = self._earlier.pop()
        title = call[1]
        if earlier is None:
            del self._tables[title]
        else:
            self._tables[title] = earlier

    def table_on(self, title):
        """Return the table under a title."""
        self._check_title(title)
        return self._tables[title]

    def alike_on(self, table):
        """Return the ascending list of the titles whose tables are alike to a table."""
        check_same_base(self._base, table)
        return [title for title in sorted(self._tables) if are_alike(self._tables[title], table)]

    def story(self):
        """Return the list of the calls that are not taken back."""
        return list(self._calls)

    def _check_put(self, title, table):
        check_title(title)
        check_same_base(self._base, table)

    def _check_title(self, title):
        if title not in self._tables:
            raise InvalidName(title)

    def _note(self, call, title):
        self._calls.append(call)
        self._earlier.append(self._tables.get(title))

    def __len__(self):
        return len(self._tables)

    def __eq__(self, other):
        # The tables under the titles are what the calls made of them.
        return (
            isinstance(other, Shelf)
            and self._base == other._base
            and self._most == other._most
            and self._calls == other._calls
        )


class SmallShelf(Shelf):
    """Tables of one base by titles, none of them of a rank greater than a limit."""

    def __init__(self, base, most):
        Shelf.__init__(self, base)
        if most < 0:
            raise InvalidNumber(most)
        self._most = most

    def put(self, title, table):
        """Put a table under a title, in the place of an earlier one if there is one."""
        self._check_put(title, table)
        rank = rank_of(table)
        if rank > self._most:
            raise TooWide(rank)
        super().put(title, table)

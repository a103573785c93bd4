"""The errors of the program: a class of its own for each kind of failure."""


class BlockError(ValueError):
    """An error of this program. It keeps what it was made with in `value`."""

    def __init__(self, value):
        # Without this the message would be empty wherever value is passed by name.
        ValueError.__init__(self, value)
        self.value = value


class InvalidBase(BlockError):
    """A base other than 2 and 3."""


class InvalidName(BlockError):
    """A name or a title that is not a letter, that occurred before, or that there is not."""


class InvalidBlocks(BlockError):
    """A named table whose blocks have the wrong form or refer to a name that there is not."""


class InvalidNumber(BlockError):
    """A number that is too small, or a number of things that is not the one that is wanted."""


class InvalidLevel(BlockError):
    """A negative level."""


class InvalidPlace(BlockError):
    """A row and a column that are not both within a square."""


class InvalidArea(BlockError):
    """A rectangle whose last row or column stands before its first one."""


class InvalidRest(BlockError):
    """A remainder that a modulus does not have."""


class UnlikeBases(BlockError):
    """Two bases that are not the same."""


class TooWide(BlockError):
    """A table of a rank that a shelf does not take."""


class NothingToUndo(BlockError):
    """A call to be taken back where there is none."""


class Unreadable(BlockError):
    """A text that is that of nothing."""

"""The errors of the package: each keeps what is wrong as an attribute."""


class TableError(Exception):
    """The base class of all errors of the package."""


class BadTable(TableError):
    """A value that is no table."""

    def __init__(self, thing):
        self.thing = thing


class OtherTable(TableError):
    """A table that is no fellow of the first one."""

    def __init__(self, thing):
        self.thing = thing


class BadRow(TableError):
    """A value that is no row of the table."""

    def __init__(self, thing):
        self.thing = thing


class BadNumber(TableError):
    """A value that is no such integer as is asked for."""

    def __init__(self, thing):
        self.thing = thing


class BadPoly(TableError):
    """A value that is no such polynomial as is asked for."""

    def __init__(self, thing):
        self.thing = thing


class BadPrime(TableError):
    """A value that is none of the four primes."""

    def __init__(self, thing):
        self.thing = thing


class BadNumbers(TableError):
    """A value that is no such tuple of numbers as is asked for."""

    def __init__(self, thing):
        self.thing = thing


class BadWord(TableError):
    """A value that is none of the words."""

    def __init__(self, thing):
        self.thing = thing


class BadText(TableError):
    """A text of no table: at is its first wrong line, or 0 if it is no string."""

    def __init__(self, at):
        self.at = at


class Lost(TableError):
    """A table that cannot be undone: it leads row, which is not all zeros, to zeros."""

    def __init__(self, row):
        self.row = row

"""The errors of the package. The arguments of each are its fields.

The messages never show the fields: these may be any values, also such as Python cannot write out.
"""


class BadName(ValueError):
    """A value that is no name."""

    def __init__(self, value):
        ValueError.__init__(self, "a name has 1 to 8 letters a to z")
        self.value = value


class BadAction(ValueError):
    """A value that is no reference or no action, or one that a column may not have."""

    def __init__(self, value):
        ValueError.__init__(self, "the column may not have this")
        self.value = value


class BadColumn(ValueError):
    """The name of a column that is not as a column must be."""

    def __init__(self, name):
        ValueError.__init__(self, "the column is not as a column must be")
        self.name = name


class BadTable(ValueError):
    """The name of a table that is not as a table must be, or that is there twice."""

    def __init__(self, name):
        ValueError.__init__(self, "the table is not as a table must be, or is there twice")
        self.name = name


class BadValue(ValueError):
    """The name of a column that may not have a value."""

    def __init__(self, column):
        ValueError.__init__(self, "the column may not have this value")
        self.column = column


class BadChoice(ValueError):
    """What was chosen in place of a pending event."""

    def __init__(self, value):
        ValueError.__init__(self, "what was chosen is no pending event")
        self.value = value


class BadRun(ValueError):
    """The index of an event that cannot be fired, or of one that is missing."""

    def __init__(self, index):
        ValueError.__init__(self, "the events are no run of this delete")
        self.index = index


class BadText(ValueError):
    """The index of the first line of a text that does not have its form."""

    def __init__(self, line):
        ValueError.__init__(self, "a line does not have its form")
        self.line = line


class BadCommand(ValueError):
    """A line that is no command."""

    def __init__(self):
        ValueError.__init__(self, "the line is no command")


class NoTable(KeyError):
    """A value that is no table of the schema."""

    def __init__(self, table):
        KeyError.__init__(self, "the schema has no such table")
        self.table = table


class NoColumn(KeyError):
    """A string that is no column of the table."""

    def __init__(self, column):
        KeyError.__init__(self, "the table has no such column")
        self.column = column


class NoRow(KeyError):
    """A table, and a value that is no id of its rows."""

    def __init__(self, table, row):
        KeyError.__init__(self, "the table has no such row")
        self.table = table
        self.row = row


class NoReference(KeyError):
    """A value that is no reference of the schema."""

    def __init__(self, reference):
        KeyError.__init__(self, "the schema has no such reference")
        self.reference = reference


class NotValid(LookupError):
    """The first fault of a database that must be valid."""

    def __init__(self, fault):
        LookupError.__init__(self, "the database is not valid")
        self.fault = fault


class Refused(RuntimeError):
    """The event or the fault for which a delete is refused."""

    def __init__(self, cause):
        RuntimeError.__init__(self, "the delete is refused")
        self.cause = cause


class Taken(RuntimeError):
    """A table, and an id that one of its rows has."""

    def __init__(self, table, row):
        RuntimeError.__init__(self, "the table has a row with this id")
        self.table = table
        self.row = row


class NotFree(RuntimeError):
    """The first conflict of a schema that must be order-free."""

    def __init__(self, conflict):
        RuntimeError.__init__(self, "the schema is not order-free")
        self.conflict = conflict


class NothingToUndo(IndexError):
    """Nothing was done that was not reverted."""

    def __init__(self):
        IndexError.__init__(self, "there is nothing to undo")


class Full(OverflowError):
    """The most that there may be."""

    def __init__(self, most):
        OverflowError.__init__(self, "there are more than there may be, or none")
        self.most = most

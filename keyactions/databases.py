"""Databases: rows, their faults, deletes, and the texts of databases."""

from keyactions.errors import BadChoice, BadValue, Full, NoColumn, NoRow, NoTable
from keyactions.errors import NothingToUndo, NotValid, Refused, Taken
from keyactions.faults import faults_of
from keyactions.forms import check_lines, is_integer, is_name, is_number, value_word, word_lines
from keyactions.stores import Store
from keyactions.sweeps import Sweep, is_pending
from keyactions.trials import Trial

MOST_ROWS = 400


class Database:
    """The rows of the tables of a schema.

    `store` holds them. It is for the package alone.
    """

    def __init__(self, schema):
        # No argument is kept, so this is a schema of its own.
        self._schema = schema.relaxed([])
        self.store = Store({table: {} for table in schema.tables()})

    @property
    def schema(self):
        """The schema."""
        return self._schema

    def insert(self, table, row, values):
        """Adds a row. Columns that are left out have their default, or None."""
        rows = rows_of(self, table)
        if not is_integer(row):
            raise BadValue("id")
        if row in rows:
            raise Taken(table, row)
        parts = self._schema.layout[table].parts
        check_known(parts, values)
        filled = {column.name: values.get(column.name, column.default) for column in parts}
        check_values(parts, filled)
        if self.store.size() >= MOST_ROWS:
            raise Full(MOST_ROWS)
        self.store.put(table, row, filled)

    def undo(self):
        """Reverts the last insert or delete that was not reverted."""
        if self.store.steps == []:
            raise NothingToUndo()
        self.store.revert()

    def ids(self, table):
        """The ids of the rows of a table, ascending."""
        return sorted(rows_of(self, table))

    def record(self, table, row):
        """The values of a row by columns, without `id`."""
        rows = rows_of(self, table)
        check_row(table, rows, row)
        return dict(rows[row])

    def rows(self):
        """A tuple (table, id, values) for each row, tables in order and ids ascending."""
        data = self.store.data
        return [(table, row, dict(data[table][row])) for table in data for row in sorted(data[table])]

    def walk(self):
        """The same as `rows`, one by one."""
        for entry in self.rows():
            yield entry

    def faults(self):
        """The faults, those of defaults first."""
        return faults_of(self._schema, self.store.data)

    def is_valid(self):
        """Whether there are no faults."""
        return self.faults() == []

    def copy(self):
        """An equal database, with nothing to undo."""
        return holding(self._schema, self.store.data)

    def delete(self, table, ids, *, choose=None):
        """Carries out a delete; gives the events in the order in which they were fired."""
        sweep = begun(self, table, ids)
        fired = []
        while sweep.pending:
            event = chosen(sweep.pending, choose)
            fired.append(event)
            if not sweep.fire(event):
                raise Refused(event)
        faults = sweep.faults()
        if faults:
            raise Refused(faults[0])
        self.store.become(sweep.data)
        return fired

    def trial(self):
        """A context manager: all that is done in its block is reverted at the end."""
        return Trial(self)

    def attempt(self, function):
        """Calls a function with the database in a trial; gives its result."""
        with self.trial() as same:
            return function(same)

    def __eq__(self, other):
        return (isinstance(other, Database) and self._schema == other._schema
                and self.store.data == other.store.data)

    def __len__(self):
        return len(self.rows())

    def __contains__(self, x):
        if not isinstance(x, tuple) or len(x) != 2 or x[0] not in self._schema:
            return False
        return is_integer(x[1]) and x[1] in self.store.data[x[0]]

    def __str__(self):
        return "\n".join([row_line(table, row, values) for table, row, values in self.rows()])

    def __repr__(self):
        return f"Database({len(self.rows())} rows)"


def holding(schema, data):
    """A database with the rows of some data, as stores have it, and nothing to undo."""
    made = Database(schema)
    made.store = Store(data).fork()
    return made


def begun(base, table, ids):
    """A delete of a database before its first event."""
    rows = rows_of(base, table)
    for row in ids:
        check_row(table, rows, row)
    faults = base.faults()
    if faults:
        raise NotValid(faults[0])
    sweep = Sweep(base.schema, base.store.data)
    sweep.go(table, sorted(set(ids)))
    return sweep


def rows_of(base, table):
    """The values of the rows of a table by ids; `table` is any value."""
    if table not in base.schema:
        raise NoTable(table)
    return base.store.data[table]


def read_database(schema, text):
    """The database of a schema with this text."""
    lines = [row_told(words) for words in word_lines(text)]
    check_lines(lines)
    base = Database(schema)
    for table, row, values in lines:
        base.insert(table, row, values)
    # The copy has nothing to undo.
    return base.copy()


def row_told(words):
    """What a line of a database's text tells: (table, id, values); None if it has no form."""
    if len(words) < 3 or words[0] != "row" or not is_name(words[1]) or not is_number(words[2]):
        return None
    pairs = [word.partition("=") for word in words[3:]]
    values = {column: value_told(word) for column, _, word in pairs if is_value(word) and is_name(column)}
    if len(values) < len(pairs):
        return None
    return (words[1], int(words[2]), values)


def is_value(word):
    """Whether a word is a value as texts have it."""
    return word == "null" or is_number(word)


def value_told(word):
    """The value that a word tells."""
    if word == "null":
        return None
    return int(word)


def row_line(table, row, values):
    """The line of a row in the text of a database."""
    words = [f"{column}={value_word(value)}" for column, value in values.items()]
    return " ".join(["row", table, str(row), *words])


def check_row(table, rows, row):
    """Raises for any value that is no id of the rows of a table."""
    if not is_integer(row) or row not in rows:
        raise NoRow(table, row)


def check_known(parts, values):
    """Raises for the least of the strings that is none of the columns."""
    names = [column.name for column in parts]
    unknown = [name for name in sorted(values) if name not in names]
    if unknown:
        raise NoColumn(unknown[0])


def check_values(parts, values):
    """Raises for the first of the columns that may not have its value."""
    for column in parts:
        value = values[column.name]
        if not is_integer(value) and not (value is None and column.nullable):
            raise BadValue(column.name)


def chosen(pending, choose):
    """The event that is fired next."""
    if choose is None:
        return pending[0]
    choice = choose(list(pending))
    if not is_pending(pending, choice):
        raise BadChoice(choice)
    return choice

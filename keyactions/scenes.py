"""The rows of a database in which two references in conflict meet in one row."""

from keyactions.worlds import can_go, causes, open_tables, targets_at

# One for what stays, one for each of the open tables but the start, one for the row of the meeting, two for its values.
MOST_IDS = 8


class Scene:
    """Rows for a start, and `deleted`, the ids of those that are deleted.

    `data` has the rows as stores have it. All tables have rows with the id `_stay`, which is the value wherever a value
    does not matter, and with the defaults as their ids; these rows stay. `_fall` has an id for each open table: a row
    goes if it has this id in the column in `_columns`, by which rows of its table begin to go.
    """

    def __init__(self, schema, start):
        self.data = {table: {} for table in schema.tables()}
        self.deleted = []
        self._schema = schema
        self._start = start
        self._columns = causes(schema, start, open_tables(schema, start))
        defaults = defaults_of(schema)
        self._spare = [row for row in range(MOST_IDS + len(defaults), 0, -1) if row not in defaults]
        self._stay = self.new_id()
        self._fall = {table: self.new_id() for table in self._columns if table != start}
        for row in [self._stay, *defaults]:
            self.place(row, schema.tables(), [])
        for table in self._fall:
            self.place_targets(self._fall[table], table, self._columns[table])

    def new_id(self):
        """An id that no row has so far."""
        return self._spare.pop()

    def place(self, row, tables, gone):
        """Adds the rows with an id in some tables; those in the tables of `gone` will go."""
        for table in tables:
            self.data[table][row] = {column: self._stay for column in self._schema.columns(table)}
            if table in gone and table in self._fall:
                self.data[table][row][self._columns[table]] = self._fall[table]
            if table in gone and table == self._start:
                self.deleted.append(row)

    def place_targets(self, row, table, column):
        """Adds the rows that an id needs as a value of a column; as many of them as can go will go."""
        targets = targets_at(self._schema, table, column)
        self.place(row, self._schema.closure(targets), can_go(self._schema, self._start, targets))

    def place_meeting(self, one, other, leaves):
        """Adds a row in which two references meet; gives its values in their columns, with `id`.

        `leaves` tells whether what must go with this row will go.
        """
        table = one[0]
        row = self.new_id()
        gone = can_go(self._schema, self._start, [table]) if leaves else []
        self.place(row, self._schema.closure([table]), [name for name in gone if name != table])
        values = {"id": row}
        for column in [one[1], other[1]]:
            if column not in values:
                values[column] = self.new_id()
                self.place_targets(values[column], table, column)
                self.data[table][row][column] = values[column]
        return values


def defaults_of(schema):
    """The defaults of all columns."""
    return [
        column.default
        for table in schema.layout.values() for column in table.parts if column.default is not None
    ]

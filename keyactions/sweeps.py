"""Deletes event by event."""

from keyactions.faults import faults_of
from keyactions.forms import is_integer
from keyactions.schemas import traits


class Sweep:
    """A delete on rows of its own. `pending` are its events that are not fired, ascending."""

    def __init__(self, schema, data):
        self.data = {name: dict(data[name]) for name in data}
        self.pending = []
        self._schema = schema

    def fork(self):
        """Another sweep that has come as far as this one."""
        made = Sweep(self._schema, self.data)
        made.pending = list(self.pending)
        return made

    def go(self, table, ids):
        """Some rows go at once; each makes its events."""
        for row in ids:
            del self.data[table][row]
        made = [event for row in ids for event in made_events(self._schema, table, row)]
        self.pending = sorted(self.pending + made)

    def fire(self, event):
        """Fires a pending event; tells whether the delete goes on."""
        table, column, _, row = event
        action = self._schema.action(event[:3])
        self.pending.remove(event)
        hit = self._hit(table, column, row)
        if action == "restrict":
            return hit == []
        if action == "cascade":
            self.go(table, hit)
        if action == "set_null":
            self._fill(table, hit, column, None)
        if action == "set_default":
            _, default = traits(self._schema.layout[table], column)
            self._fill(table, hit, column, default)
        return True

    def faults(self):
        """The faults of what is left."""
        return faults_of(self._schema, self.data)

    def state(self):
        """What decides how the delete can go on, as a tuple."""
        rows = [
            (table, row, tuple(values.values()))
            for table, entries in self.data.items() for row, values in entries.items()
        ]
        return (tuple(rows), tuple(self.pending))

    def _hit(self, table, column, row):
        """The ids of the rows that have an id in a column."""
        rows = self.data[table]
        if column == "id":
            return [row] if row in rows else []
        return [at for at in rows if rows[at][column] == row]

    def _fill(self, table, ids, column, value):
        """Some rows get another value in a column."""
        for row in ids:
            self.data[table][row] = {**self.data[table][row], column: value}


def made_events(schema, table, row):
    """The events that a row makes if it goes, ascending."""
    return [(*reference, row) for reference in schema.references(target=table)]


def is_pending(pending, value):
    """Whether any value is one of the pending events: True is no id, although it equals 1."""
    return isinstance(value, tuple) and len(value) == 4 and is_integer(value[3]) and value in pending

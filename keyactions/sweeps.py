"""Deletes event by event."""

from keyactions.faults import faults_of
from keyactions.schemas import traits


class Sweep:
    """A delete on rows of its own. `pending` are its events that are not fired, ascending."""

    def __init__(self, schema, data, table, ids):
        self.data = {name: dict(data[name]) for name in data}
        self.pending = []
        self._schema = schema
        self._go(table, sorted(set(ids)))

    def fire(self, event):
        """Fires a pending event; tells whether the delete goes on."""
        table, column, _, row = event
        action = self._schema.action(event[:3])
        self.pending.remove(event)
        hit = self._hit(table, column, row)
        if action == "restrict":
            return hit == []
        if action == "cascade":
            self._go(table, hit)
        if action == "set_null":
            self._fill(table, hit, column, None)
        if action == "set_default":
            _, default = traits(self._schema.layout[table], column)
            self._fill(table, hit, column, default)
        return True

    def faults(self):
        """The faults of what is left."""
        return faults_of(self._schema, self.data)

    def _hit(self, table, column, row):
        """The ids of the rows that have an id in a column."""
        rows = self.data[table]
        if column == "id":
            return [row] if row in rows else []
        return [at for at in rows if rows[at][column] == row]

    def _go(self, table, ids):
        """Some rows go at once; each makes its events."""
        for row in ids:
            del self.data[table][row]
        references = self._schema.references(target=table)
        made = [(*reference, row) for reference in references for row in ids]
        self.pending = sorted(self.pending + made)

    def _fill(self, table, ids, column, value):
        """Some rows get another value in a column."""
        for row in ids:
            self.data[table][row] = {**self.data[table][row], column: value}

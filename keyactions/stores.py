"""What a database holds: its rows, and how to take back what was done to them."""


class Store:
    """`data` has for each table a dict of the values of its rows by ids.

    A dict of values is never changed, only replaced, because `steps` has those from before.
    Each step is a list of tuples (table, id, values from before), with None for a row that was not there.
    """

    def __init__(self, data):
        self.data = data
        self.steps = []

    def fork(self):
        """Another store with the same rows and without steps."""
        return Store({table: copied_rows(self.data[table]) for table in self.data})

    def size(self):
        """The number of rows."""
        return sum([len(self.data[table]) for table in self.data])

    def put(self, table, row, values):
        """Adds a row, as one step."""
        self.data[table][row] = values
        self.steps.append([(table, row, None)])

    def become(self, data):
        """Takes other data, with no further rows, as one step."""
        self.steps.append([
            (table, row, values)
            for table, rows in self.data.items() for row, values in rows.items()
            if data[table].get(row) != values
        ])
        self.data = data

    def revert(self):
        """Takes back the last step."""
        step = self.steps.pop()
        for table, row, values in step:
            if values is None:
                del self.data[table][row]
            else:
                self.data[table][row] = values


def copied_rows(rows):
    """The same rows, each with values of its own."""
    return {row: dict(rows[row]) for row in rows}

"""The faults of a database."""

from keyactions.schemas import linked, targets_of


def faults_of(schema, data):
    """The faults in their order; `data` has for each table the values of its rows by ids."""
    tables = [schema.layout[name] for name in schema.tables()]
    return [
        *[fault for table in tables for fault in default_faults(table, data)],
        *[fault for table in tables for fault in row_faults(table, data)],
    ]


def default_faults(table, data):
    """The faults of the defaults of a table's columns."""
    return [
        (table.name, None, column.name, target)
        for column in table.parts if column.default is not None
        for target in targets_of(column.links) if column.default not in data[target]
    ]


def row_faults(table, data):
    """The faults of a table's rows."""
    found = []
    for row in sorted(data[table.name]):
        values = {"id": row, **data[table.name][row]}
        found.extend([
            (table.name, row, column, target)
            for column, links in linked(table) if values[column] is not None
            for target in targets_of(links) if values[column] not in data[target]
        ])
    return found

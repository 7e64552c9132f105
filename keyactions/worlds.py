"""What can go: open tables, and the tables that can go with some tables.

A set of tables is a list here, in the order of the schema. `grounds` are the tables that the document calls O.
"""

from keyactions.errors import NoTable
from keyactions.schemas import linked, reachable, targets_of


def open_tables(schema, start):
    """The tables of which a row can go because it is deleted itself or by a column other than `id`."""
    check_tables(schema, [start])
    return opened(schema, start)


def can_go(schema, start, tables):
    """The tables that can go with some tables."""
    check_tables(schema, [start, *tables])
    return going(schema, opened(schema, start), tables)


def check_tables(schema, tables):
    """Raises for the first of some values that is no table."""
    for table in tables:
        if table not in schema:
            raise NoTable(table)


def opened(schema, start):
    """The open tables for a start."""
    return shrunk(schema, start)[-1]


def shrunk(schema, start):
    """All tables, then L(O) with what stands before as O, until it stays the same."""
    stages = [schema.tables()]
    while True:
        fewer = begin_to_go(schema, start, stages[-1])
        if fewer == stages[-1]:
            return stages
        stages.append(fewer)


def begin_to_go(schema, start, grounds):
    """L(O)."""
    found = causes(schema, start, grounds)
    return [table for table in schema.tables() if table in found]


def causes(schema, start, grounds):
    """For each table of L(O) the column by which its rows begin to go, None for the start.

    A table stands behind all those that its column needs.
    """
    found = {start: None}
    known = 0
    while known < len(found):
        known = len(found)
        for table, column in columns_of(schema):
            if table not in found and can_take(schema, grounds, found, table, column):
                found[table] = column
    return found


def can_take(schema, grounds, found, table, column):
    """Whether a column cascades from a table whose rows go because of rows of the tables found so far."""
    targets = targets_at(schema, table, column)
    gone = spread(schema, going(schema, grounds, targets), found)
    return any([schema.action((table, column, target)) == "cascade" for target in targets if target in gone])


def going(schema, grounds, tables):
    """top(P, O), with P the closure of some tables."""
    within = schema.closure(tables)
    left = within
    while True:
        grounded = spread(schema, left, grounds)
        stay = [table for table in within if table not in grounded]
        named = [target for table in stay for target in targets_at(schema, table, "id")]
        fewer = [table for table in grounded if table not in named]
        if fewer == left:
            return left
        left = fewer


def spread(schema, tables, sources):
    """Those of some tables that are sources, or whose `id` cascades from one that is reached before."""
    followers = {
        table: [other for other in tables if (table, "cascade") in schema.layout[other].links]
        for table in tables
    }
    reached = reachable(followers, [table for table in tables if table in sources])
    return [table for table in tables if table in reached]


def columns_of(schema):
    """All columns other than `id`, each with its table."""
    return [(table, column) for table in schema.tables() for column in schema.columns(table)]


def targets_at(schema, table, column):
    """The targets of a column."""
    for name, links in linked(schema.layout[table]):
        if name == column:
            return targets_of(links)
    return []

"""Conflicts: two references that meet in one row, so that the order of their events matters."""

from keyactions.errors import NotFree, NoTable
from keyactions.schemas import traits
from keyactions.worlds import going, opened, spread, targets_at


def conflicts(schema, *, start=None):
    """The conflicts for a start, or for all, ascending."""
    if start is not None and start not in schema:
        raise NoTable(start)
    starts = schema.tables() if start is None else [start]
    return sorted([found for name in starts for found in conflicts_with(schema, name, opened(schema, name))])


def is_order_free(schema):
    """Whether all runs of each delete of each valid database have equal ends."""
    return conflicts(schema) == []


def check_free(schema):
    """Raises for the first conflict of a schema."""
    found = conflicts(schema)
    if found:
        raise NotFree(found[0])


def conflicts_with(schema, start, grounds):
    """The conflicts for a start, with some tables in place of the open tables."""
    return [
        (start, way, one, other)
        for table in schema.tables() for way, one, other in clashes(schema, table, grounds)
    ]


def clashes(schema, table, grounds):
    """The pairs of references of a table that are in conflict, as tuples (way, one, other)."""
    met = meetings(schema, table, grounds)
    leaves = table in going(schema, grounds, [table])
    pairs = [(way_of(one, other, met, leaves), one, other) for one in met for other in met]
    return [pair for pair in pairs if pair[0] is not None]


def way_of(one, other, met, leaves):
    """The way in which two references are in conflict, or None; `leaves` tells whether rows of their table can go."""
    actions = (met[one], met[other])
    if one[1] == other[1] and one[1] != "id":
        clash = one < other and actions[0] != actions[1] and "no_action" not in actions
        return "value" if clash and (leaves or sorted(actions) != ["cascade", "restrict"]) else None
    return "row" if leaves and actions == ("cascade", "restrict") else None


def meetings(schema, table, grounds):
    """The action of each reference of a table whose target can go while the row that names it is still there."""
    met = {}
    for column in ["id", *schema.columns(table)]:
        targets = targets_at(schema, table, column)
        gone = going(schema, grounds, targets) if column != "id" else free_of(schema, table, grounds)
        for target in targets:
            if target in gone:
                met[(table, column, target)] = effect(schema, (table, column, target))
    return met


def free_of(schema, table, grounds):
    """The tables that can go with a table and are grounded without it."""
    others = [other for other in going(schema, grounds, [table]) if other != table]
    return spread(schema, others, grounds)


def effect(schema, reference):
    """The action of a reference, where `set_default` without a default counts as `set_null`."""
    action = schema.action(reference)
    _, default = traits(schema.layout[reference[0]], reference[1])
    if action == "set_default" and default is None:
        return "set_null"
    return action

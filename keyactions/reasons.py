"""Reasons: the end of a delete that no order can change, and why each row goes and each value differs in it.

What could be a reason is found from the rows before and after the delete alone.
"""

from keyactions.conflicts import check_free
from keyactions.databases import begun, holding
from keyactions.errors import Refused
from keyactions.forms import is_integer
from keyactions.schemas import linked

DELETED = ("deleted",)


def end_of(database, table, ids):
    """The end of every run of a delete; None if it is refused."""
    data = left_by(database, table, ids)
    if data is None:
        return None
    return holding(database.schema, data)


def reasons(database, table, ids):
    """A reason for each row that goes and for each value that differs."""
    goings, values = possible(database, table, ids)
    found = grounded(goings)
    for key in values:
        found[key] = values[key][0]
    return found


def explains(database, table, ids, value):
    """Whether any value are reasons of a delete."""
    goings, values = possible(database, table, ids)
    right = {key: part[key] for part in (goings, values) for key in part}
    if not isinstance(value, dict) or len(value) != len(right):
        return False
    if not all([is_exact(key) and key in right for key in value]):
        return False
    if not all([is_exact(value[key]) and value[key] in right[key] for key in value]):
        return False
    return len(grounded({row: [value[row]] for row in goings})) == len(goings)


def left_by(database, table, ids):
    """The data that every run of a delete leaves; None if it is refused."""
    sweep = begun(database, table, ids)
    check_free(database.schema)
    while sweep.pending:
        if not sweep.fire(sweep.pending[0]):
            return None
    if sweep.faults():
        return None
    return sweep.data


def possible(database, table, ids):
    """All right reasons of each row that goes and of each value that differs, as two dicts of lists.

    Those of rows may lead back to themselves.
    """
    before, after = database.store.data, left_by(database, table, ids)
    if after is None:
        raise Refused(None)
    tables = database.schema.layout
    goings = {
        (name, row): takers(tables[name], row, before, after)
        for name in tables for row in sorted(before[name]) if row not in after[name]
    }
    for row in ids:
        goings[(table, row)] = [DELETED]
    values = {
        (name, row, part.name): replacers(name, row, part, before, after)
        for name in tables for row in sorted(after[name]) for part in tables[name].parts
        if before[name][row][part.name] != after[name][row][part.name]
    }
    return (goings, values)


def takers(home, row, before, after):
    """The reasons (column, target, id) for which a row of a table may have gone."""
    values = {"id": row, **before[home.name][row]}
    return [
        (column, target, values[column])
        for column, links in linked(home) for target, action in links
        if action == "cascade" and has_gone(target, values[column], before, after)
    ]


def replacers(name, row, part, before, after):
    """The reasons (target, id) for which a column of a row may have another value now."""
    old, new = before[name][row][part.name], after[name][row][part.name]
    replaced = {"set_null": None, "set_default": part.default}
    return [
        (target, old) for target, action in part.links
        if action in replaced and replaced[action] == new and has_gone(target, old, before, after)
    ]


def has_gone(table, row, before, after):
    """Whether a table had a row with an id, or None, and has it no more."""
    return row in before[table] and row not in after[table]


def grounded(goings):
    """One of the reasons of each row, such that none leads back; rows without such a reason are left out."""
    followers = {row: [] for row in goings}
    found = {row: DELETED for row in goings if DELETED in goings[row]}
    for row in goings:
        for reason in goings[row]:
            if reason != DELETED:
                followers[reason[1:]].append((row, reason))
    waiting = list(found)
    while waiting:
        gone = waiting.pop()
        for row, reason in followers[gone]:
            if row not in found:
                found[row] = reason
                waiting.append(row)
    return found


def is_exact(value):
    """Whether any value is a tuple of strings and integers; otherwise an equal one could have True in place of 1."""
    return isinstance(value, tuple) and all([isinstance(part, str) or is_integer(part) for part in value])

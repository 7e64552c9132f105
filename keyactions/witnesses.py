"""Witnesses: a database, a delete, and two runs of it that end differently."""

from keyactions.conflicts import conflicts
from keyactions.databases import Database, begun, holding
from keyactions.errors import BadRun, NoRow
from keyactions.forms import is_integer
from keyactions.runs import replay
from keyactions.scenes import Scene


def witness(schema):
    """A witness for a schema; None if it is order-free."""
    found = conflicts(schema)
    if found == []:
        return None
    start, _, one, other = found[0]
    scene = Scene(schema, start)
    actions = sorted([schema.action(one), schema.action(other)])
    values = scene.place_meeting(one, other, actions == ["cascade", "restrict"])
    base = holding(schema, scene.data)
    ids = sorted(scene.deleted)
    late = [(*link, values[link[1]]) for link in schema.references(table=one[0]) if link[1] in values]
    firsts = [(*link, values[link[1]]) for link in (one, other)]
    runs = [meeting_run(base, start, ids, late, first) for first in firsts]
    return (base, start, ids, runs[0], runs[1])


def meeting_run(base, table, ids, late, first):
    """A run in which all that can go without the `late` events goes first, then the event `first`, one of them."""
    sweep = begun(base, table, ids)
    fired = []
    goes_on = True
    while goes_on and sweep.pending:
        waiting = [] if first in fired else late
        cascades = [
            event for event in sweep.pending
            if base.schema.action(event[:3]) == "cascade" and event not in waiting
        ]
        rest = [first] if waiting else sweep.pending
        choices = [*cascades, *rest]
        fired.append(choices[0])
        goes_on = sweep.fire(choices[0])
    return fired


def parts(schema, value):
    """Whether any value is a witness for a schema."""
    if not isinstance(value, tuple) or len(value) != 5:
        return False
    base, table, ids, one, other = value
    if not isinstance(base, Database) or base.schema != schema or not base.is_valid():
        return False
    if table not in schema or not is_ascending(ids) or not isinstance(one, list) or not isinstance(other, list):
        return False
    try:
        return replay(base, table, ids, one) != replay(base, table, ids, other)
    except (NoRow, BadRun):
        return False


def is_ascending(value):
    """Whether any value is an ascending list of different integers."""
    if not isinstance(value, list) or not all([is_integer(item) for item in value]):
        return False
    return all([one < other for one, other in zip(value, value[1:])])

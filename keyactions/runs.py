"""Runs: the events of a row, a run fired again, and the ends of all runs."""

from keyactions.databases import begun, holding
from keyactions.errors import BadRun, NoTable
from keyactions.sweeps import is_pending, made_events


def events_of(schema, table, row):
    """The events that a row with this id makes if it goes, ascending."""
    if table not in schema:
        raise NoTable(table)
    return made_events(schema, table, row)


def replay(database, table, ids, events):
    """The end of the run that fires these events; None if the delete is refused."""
    sweep = begun(database, table, ids)
    goes_on = True
    for at, event in enumerate(events):
        if not goes_on or not is_pending(sweep.pending, event):
            raise BadRun(at)
        goes_on = sweep.fire(event)
    if goes_on and sweep.pending:
        raise BadRun(len(events))
    if not goes_on or sweep.faults():
        return None
    return holding(database.schema, sweep.data)


def ends(database, table, ids):
    """The different ends of all runs: None first, then ordered by their texts."""
    fired, refused = all_fired(begun(database, table, ids))
    done = [holding(database.schema, sweep.data) for sweep in fired if not sweep.faults()]
    if refused or len(done) < len(fired):
        return [None, *sorted(done, key=str)]
    return sorted(done, key=str)


def all_fired(sweep):
    """What a delete comes to in all orders: the different sweeps without events, and whether `restrict` refuses one."""
    seen = {}
    waiting, fired, refused = [sweep], [], False
    while waiting:
        now = waiting.pop()
        state = now.state()
        # Orders that lead to the same state go on in the same ways.
        if state not in seen:
            seen[state] = True
            further = [fired_once(now, event) for event in now.pending]
            refused = refused or None in further
            waiting.extend([later for later in further if later is not None])
            fired.extend([] if now.pending else [now])
    return (fired, refused)


def fired_once(sweep, event):
    """Another sweep that has fired one more event; None if this refuses the delete."""
    later = sweep.fork()
    if not later.fire(event):
        return None
    return later

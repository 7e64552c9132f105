"""Certificates: why a schema has no conflicts, in stages that can be looked at one by one."""

from keyactions.conflicts import check_free, conflicts_with
from keyactions.worlds import begin_to_go, shrunk


def certificate(schema):
    """A certificate for an order-free schema: its last stages are the open tables."""
    check_free(schema)
    return {start: shrunk(schema, start) for start in schema.tables()}


def certifies(schema, value):
    """Whether any value is a certificate for a schema."""
    tables = schema.tables()
    if not isinstance(value, dict) or len(value) != len(tables):
        return False
    return all([start in value and clears(schema, start, value[start]) for start in tables])


def clears(schema, start, stages):
    """Whether any value is a list of stages that leaves no conflict for a start."""
    if not isinstance(stages, list) or not all([is_stage(schema, stage) for stage in stages]):
        return False
    if stages[:1] != [schema.tables()]:
        return False
    follow = [follows(schema, start, before, after) for before, after in zip(stages, stages[1:])]
    return all(follow) and conflicts_with(schema, start, stages[-1]) == []


def follows(schema, start, before, after):
    """Whether a stage has all tables of L(O), with the stage before it as O."""
    return all([table in after for table in begin_to_go(schema, start, before)])


def is_stage(schema, value):
    """Whether any value is a list of tables in the order of the schema, without duplicates."""
    return isinstance(value, list) and value == [table for table in schema.tables() if table in value]

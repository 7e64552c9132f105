"""Changes: the fewest references whose action must be another one, and the actions that one reference may have."""

from itertools import combinations

from keyactions.conflicts import is_order_free
from keyactions.schemas import may_have, traits


def fewest_changes(schema):
    """As few references as possible whose change to `no_action` makes the schema order-free, the least such list."""
    links = acting(schema)
    cores = []
    for count in range(len(links)):
        # The combinations of ascending references come in ascending order.
        for chosen in combinations(links, count):
            if all([meets(chosen, core) for core in cores]):
                left = schema.relaxed(list(chosen))
                if is_order_free(left):
                    return list(chosen)
                cores.append(core_of(left))
    return links


def core_of(schema):
    """References that alone keep a schema from being order-free: with `no_action` for any one of them it would be.

    Since no change to `no_action` brings new conflicts, each list of changes that helps has one of them.
    """
    left = schema
    for reference in acting(schema):
        fewer = left.relaxed([reference])
        if not is_order_free(fewer):
            left = fewer
    return acting(left)


def acting(schema):
    """The references with another action than `no_action`, ascending."""
    return [reference for reference in schema.references() if schema.action(reference) != "no_action"]


def meets(chosen, core):
    """Whether two lists of references have one in common."""
    return any([reference in core for reference in chosen])


def allowed(schema, reference):
    """The actions with which, in place of its own, the schema is order-free."""
    schema.action(reference)
    table, column, _ = reference
    nullable, default = traits(schema.layout[table], column)
    fitting = [action for action in schema.ACTIONS if may_have(action, nullable, default)]
    return [action for action in fitting if is_order_free(schema.changed(reference, action))]

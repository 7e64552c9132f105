"""Points 14 to 16 of the document once more, and deletes in order-free schemas to try them on."""

import itertools

from keyactions.conflicts import is_order_free
from keyactions.databases import Database
from keyactions.schemas import Column, Schema, Table
from readings import Reading, dense_schema
from test_deletes import Model, random_delete, run


def clashes(schema, start, grounds):
    """The conflicts for a start, with some tables in place of the open ones."""
    reading = Reading(schema, start)
    reading.known["open"] = frozenset(grounds)
    return reading.conflicts()


def is_certificate(schema, value):
    """Point 14."""
    tables = schema.tables()
    if value.__class__ is not dict or any(key.__class__ is not str for key in value) or set(value) != set(tables):
        return False
    for start, stages in value.items():
        if stages.__class__ is not list or len(stages) == 0:
            return False
        for stage in stages:
            if stage.__class__ is not list or any(name.__class__ is not str or name not in tables for name in stage):
                return False
            places = [tables.index(name) for name in stage]
            if any(one >= other for one, other in zip(places, places[1:])):
                return False
        reading = Reading(schema, start)
        if set(stages[0]) != set(tables):
            return False
        if any(not reading.least(frozenset(stages[at])) <= set(stages[at + 1]) for at in range(len(stages) - 1)):
            return False
        if clashes(schema, start, stages[-1]):
            return False
    return True


def fewest_by_search(schema):
    """The least of the shortest lists of references whose change to `no_action` leaves no conflicts."""
    links = sorted(schema.references())
    for count in range(len(links) + 1):
        lists = [list(some) for some in itertools.combinations(links, count)]
        fitting = [some for some in lists if is_order_free(with_no_action(schema, some))]
        if fitting:
            return min(fitting)
    return None


def with_no_action(schema, links):
    """The schema with other actions, put together anew."""
    return rebuilt(schema, {link: "no_action" for link in links})


def rebuilt(schema, actions, names=None, order=None, without=()):
    """The schema with some other actions, other names of tables, another order, or references left out."""
    names = names or {name: name for name in schema.tables()}

    def links(table, column, old):
        return tuple((names[target], actions.get((table, column, target), action)) for target, action in old
                     if (table, column, target) not in without)
    made = {
        table.name: Table(names[table.name], *[
            Column(part.name, *links(table.name, part.name, part.links), nullable=part.nullable, default=part.default)
            for part in table.parts], ids=links(table.name, "id", table.links))
        for table in schema.layout.values()}
    return Schema(*[made[name] for name in order or schema.tables()])


class Account:
    """What point 16 says of a delete that is done: `rows` and `values` have all right reasons of each key."""

    def __init__(self, base, table, ids, end):
        self.rows, self.values = {}, {}
        old = {(name, row): {"id": row, **values} for name, row, values in base.rows()}
        new = {(name, row): {"id": row, **values} for name, row, values in end.rows()}
        schema = base.schema
        defaults = {(part.name, column.name): column.default for part in schema.layout.values() for column in part.parts}
        for (name, row), values in old.items():
            links = schema.references(table=name)
            gone = [link for link in links if (link[2], values[link[1]]) in old and (link[2], values[link[1]]) not in new]
            if (name, row) not in new:
                chosen = [(column, target, values[column]) for _, column, target in gone
                          if schema.action((name, column, target)) == "cascade"]
                self.rows[(name, row)] = [("deleted",)] if name == table and row in ids else chosen
                continue
            for column in values:
                if values[column] != new[(name, row)][column]:
                    ends = {"set_null": None, "set_default": defaults[(name, column)]}
                    self.values[(name, row, column)] = [
                        (link[2], values[column]) for link in gone if link[1] == column
                        and ends.get(schema.action(link), "none") == new[(name, row)][column]]

    def leads_back(self, value, row):
        """Whether the reasons of a row lead back to it, or to some other ring."""
        seen = []
        while value[row] != ("deleted",):
            if row in seen:
                return True
            seen.append(row)
            row = value[row][1:]
        return False

    def accepts(self, value):
        """Whether a dict with the right kinds of keys and values is right."""
        if set(value) != {*self.rows, *self.values}:
            return False
        if any(value[key] not in {**self.rows, **self.values}[key] for key in value):
            return False
        return not any(self.leads_back(value, row) for row in self.rows)

    def choices(self):
        """All dicts that have for each key one of its reasons, also such as lead back."""
        options = {**self.rows, **self.values}
        for chosen in itertools.product(*options.values()):
            yield dict(zip(options, chosen))

    def size(self):
        """The number of these dicts."""
        count = 1
        for options in [*self.rows.values(), *self.values.values()]:
            count *= len(options)
        return count


def end_by(base, table, ids, chance, defaults):
    """The end of one run by the model."""
    model, _, cause = run(base, table, ids, chance, defaults)
    left = Database(base.schema)
    for entry in model.entries():
        left.insert(*entry)
    return left if cause is None and left.is_valid() else None


def eased(schema, chance):
    """The schema, order-free: as few of its references as chance has it have `no_action`."""
    while not is_order_free(schema):
        acting = [link for link in schema.references() if schema.action(link) != "no_action"]
        schema = with_no_action(schema, [chance.choice(acting)])
    return schema


def free_delete(chance):
    """A valid database of some order-free schema, a table, ids of its rows, and the defaults of all columns."""
    base, table, ids, defaults = random_delete(chance)
    schema = eased(base.schema, chance)
    left = Database(schema)
    for entry in base.rows():
        left.insert(*entry)
    return left, table, ids, defaults


def full_delete(chance):
    """The same with many rows that name one another: all tables have rows with the same ids."""
    schema = eased(dense_schema(chance), chance)
    defaults = {(table.name, part.name): part.default for table in schema.layout.values() for part in table.parts}
    fixed = sorted({default for default in defaults.values() if default is not None})
    loose = [1, 2, 3, 4][:chance.randint(2, 4)]
    base = Database(schema)
    for table in schema.layout.values():
        for row in fixed + loose:
            base.insert(table.name, row, {part.name: some_value(part, fixed, loose, chance) for part in table.parts})
    return base, chance.choice(schema.tables()), chance.sample(loose, chance.choice([1, 1, 2])), defaults


def some_value(part, fixed, loose, chance):
    """A value for a column: one that cannot go, None, or one that may go."""
    return chance.choice([*(fixed or loose)[:2], *loose, *[None] * part.nullable])

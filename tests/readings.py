"""Points 9 to 12 of the document once more: plainly, through all sets of tables. And schemas to try them on."""

import functools
import itertools

from keyactions.schemas import Column, Schema, Table
from samples import ACTIONS


@functools.lru_cache(maxsize=None)
def sets_of(tables):
    """All sets of some tables, the small ones first."""
    names = sorted(tables)
    return [frozenset(some) for count in range(len(names) + 1) for some in itertools.combinations(names, count)]


class Reading:
    """What the points say of a schema and a start."""

    def __init__(self, schema, start):
        self.start = start
        self.tables = tuple(schema.tables())
        self.columns = {table: schema.columns(table) for table in self.tables}
        self.actions = {link: schema.action(link) for link in schema.references()}
        self.defaults = {(table.name, part.name): part.default
                         for table in schema.layout.values() for part in table.parts}
        self.known = {}

    def once(self, key, function, *args):
        """What a function gives, found out at the first call."""
        if key not in self.known:
            self.known[key] = function(*args)
        return self.known[key]

    def targets(self, table, column, action=None):
        return self.once(("targets", table, column, action), lambda: frozenset(
            link[2] for link in self.actions if link[:2] == (table, column) and action in (None, self.actions[link])))

    def closure(self, tables):
        """The least set: what all such sets have in common."""
        return self.once(("closure", frozenset(tables)), lambda: frozenset.intersection(*[
            some for some in sets_of(self.tables) if set(tables) <= some
            and all(self.targets(table, "id") <= some for table in some)]))

    def is_settled(self, some, within):
        return all(table in some for table in within if self.targets(table, "id") & some)

    def is_grounded(self, some, grounds):
        """No part of the set hangs in the air: has no ground and cascades from no table outside of this part."""
        return all(any(table in grounds or self.targets(table, "id", "cascade") & (some - part) for table in part)
                   for part in sets_of(some) if part)

    def top(self, within, grounds):
        return self.once(("top", within, grounds), self.greatest, within, grounds)

    def greatest(self, within, grounds):
        fitting = [some for some in sets_of(within)
                   if self.is_settled(some, within) and self.is_grounded(some, grounds)]
        assert frozenset.union(*fitting) in fitting
        return frozenset.union(*fitting)

    def reached(self, sources, within):
        """The least set that has the sources and what cascades from the set by `id`, all within some tables."""
        fitting = [some for some in sets_of(within) if sources & within <= some
                   and not any(self.targets(table, "id", "cascade") & some for table in within - some)]
        return frozenset.intersection(*fitting)

    def begins(self, table, known, grounds):
        """Whether the rule adds a table to a set."""
        for column in self.columns[table]:
            top = self.top(self.closure(self.targets(table, column)), grounds)
            if self.targets(table, column, "cascade") & self.reached(known, top):
                return True
        return False

    def least(self, grounds):
        """L(O)."""
        fitting = [some for some in sets_of(self.tables) if self.start in some
                   and not any(self.begins(table, some, grounds) for table in set(self.tables) - some)]
        return frozenset.intersection(*fitting)

    def open(self):
        return self.once("open", self.last)

    def last(self):
        """O, when it stays the same."""
        grounds = frozenset(self.tables)
        while self.least(grounds) != grounds:
            grounds = self.least(grounds)
        return grounds

    def can_go(self, tables):
        return self.top(self.closure(tables), self.open())

    def in_order(self, some):
        return [table for table in self.tables if table in some]

    def effect(self, link):
        action = self.actions[link]
        return "set_null" if action == "set_default" and self.defaults[link[:2]] is None else action

    def free_of(self, table):
        own, grounds = self.can_go([table]), self.open()
        rest = own - {table}
        return self.reached(grounds & rest, rest)

    def meets(self, link):
        """Whether the target of a reference is in T(x), or free of its table."""
        table, column, target = link
        return target in (self.free_of(table) if column == "id" else self.can_go(self.targets(table, column)))

    def is_value(self, one, other):
        effects = {self.effect(one), self.effect(other)}
        if one[:2] != other[:2] or one[1] == "id" or not (self.meets(one) and self.meets(other)):
            return False
        if len(effects) != 2 or "no_action" in effects:
            return False
        return effects != {"cascade", "restrict"} or one[0] in self.can_go([one[0]])

    def is_row(self, one, other):
        if one[0] != other[0] or not (one[1] != other[1] or one[1] == other[1] == "id"):
            return False
        return (self.actions[one] == "cascade" and self.actions[other] == "restrict"
                and one[0] in self.can_go([one[0]]) and self.meets(one) and self.meets(other))

    def conflicts(self):
        pairs = list(itertools.product(self.actions, repeat=2))
        return sorted([(self.start, "value", one, other) for one, other in pairs
                       if one < other and self.is_value(one, other)]
                      + [(self.start, "row", one, other) for one, other in pairs if self.is_row(one, other)])


def may_have(action, column, nullable, default):
    """Whether a column may have an action [5]."""
    if column == "id":
        return action not in ("set_null", "set_default")
    return {"set_null": nullable, "set_default": nullable or default is not None}.get(action, True)


def dense_schema(chance):
    """Some schema with up to 5 tables and 10 references, often with rings of `id` and long ways of cascades."""
    names = ["a", "b", "c", "d", "e"][:chance.choice([1, 2, 2, 3, 3, 4, 4, 5])]
    chance.shuffle(names)
    columns = [(name, "id", False, None) for name in names] + [
        (name, column, chance.random() < 0.5, chance.choice([None, None, 0, 7, -3, 10 ** 40 - 1]))
        for name in names for column in "xyz"[:chance.randint(0, 3)]]
    slots = [(*column, target) for column in columns for target in names if column[1] != "id" or column[0] != target]
    heavy, cascades = chance.choice([1, 2, 5]), chance.choice([0.3, 0.6, 0.9])
    slots = sorted(slots, key=lambda slot: chance.random() / (heavy if slot[1] == "id" else 1))[:chance.choice([1, 2, 3, 4, 5, 6, 7, 8, 9, 10, 10])]
    links = {}
    for table, column, nullable, default, target in slots:
        actions = [action for action in ACTIONS if may_have(action, column, nullable, default)]
        action = "cascade" if chance.random() < cascades else chance.choice(actions)
        links.setdefault((table, column), []).append((target, action))
    return Schema(*[
        Table(name, *[Column(column, *links.get((name, column), [])[:4], nullable=nullable, default=default)
                      for table, column, nullable, default in columns if table == name and column != "id"],
              ids=tuple(links.get((name, "id"), [])))
        for name in names])

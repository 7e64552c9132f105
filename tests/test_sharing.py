"""Conventions [2]: what is returned is new, what is passed is not kept or changed, and arguments may be named."""

import copy

from keyactions.certificates import certificate, certifies
from keyactions.changes import allowed, fewest_changes
from keyactions.conflicts import conflicts, is_order_free
from keyactions.console import Console
from keyactions.databases import Database, read_database
from keyactions.errors import BadRun, NotFree, NothingToUndo, NoTable, Refused
from keyactions.reasons import end_of, explains, reasons
from keyactions.runs import ends, events_of, replay
from keyactions.schemas import Column, Schema, Table, read_schema
from keyactions.witnesses import parts, witness
from keyactions.worlds import can_go, open_tables
from samples import SHOP, Case, same, shop, stocked

FAULTY = "row user 1\nrow cart 7 owner=5\nrow cart 6 owner=1 payer=3"
OWNER, PAYER = ("cart", "owner", "user", 1), ("cart", "payer", "user", 1)


def plain(value):
    """The same value without databases and schemas: their texts stand in for them."""
    if isinstance(value, (Database, Schema)):
        return (value.__class__.__name__, str(value))
    if isinstance(value, (list, tuple)):
        return value.__class__([plain(part) for part in value])
    if isinstance(value, dict):
        return {name: plain(part) for name, part in value.items()}
    return value


def spoil(value):
    """Changes all that can be changed in a value."""
    if isinstance(value, (list, tuple)):
        for part in value:
            spoil(part)
    if isinstance(value, list):
        value[:] = ["spoilt", *value[1:], "more"]
    if isinstance(value, dict):
        for part in value.values():
            spoil(part)
        value.clear()
        value["spoilt"] = ["more"]
    if isinstance(value, Database):
        for table in value.schema.tables():
            value.insert(table, 999, {name: 998 for name in value.schema.columns(table)})


def of_schema(schema):
    """Calls of all methods of a schema."""
    return {
        "tables": lambda: schema.tables(),
        "columns": lambda: schema.columns(table="cart"),
        "references": lambda: schema.references(table="cart"),
        "all references": lambda: schema.references(),
        "action": lambda: schema.action(reference=("cart", "owner", "user")),
        "changed": lambda: schema.changed(reference=("cart", "owner", "user"), action="restrict"),
        "relaxed": lambda: schema.relaxed(references=[("cart", "owner", "user")]),
        "closure": lambda: schema.closure(tables=["cart", "user"]),
        "implied": lambda: schema.implied(),
        "copied": lambda: read_schema(text=str(schema)),
    }


def of_database(base):
    """Calls of the methods of a database that tell something."""
    return {
        "ids": lambda: base.ids(table="user"),
        "record": lambda: base.record(table="cart", row=7),
        "rows": lambda: base.rows(),
        "walk": lambda: list(base.walk()),
        "faults": lambda: base.faults(),
        "copy": lambda: base.copy(),
        "schema": lambda: base.schema,
        "read": lambda: read_database(schema=base.schema, text=str(base)),
        "deleted": lambda: base.copy().delete(table="user", ids=[1], choose=None),
        "attempt": lambda: base.attempt(function=lambda same_base: same_base.rows()),
    }


def of_modules(schema, base):
    """Calls of the functions of the modules."""
    return {
        "events_of": lambda: events_of(schema=schema, table="user", row=1),
        "replay": lambda: replay(database=base, table="user", ids=[1], events=[OWNER, PAYER]),
        "replay nothing": lambda: replay(database=base, table="user", ids=[], events=[]),
        "ends": lambda: ends(database=base, table="user", ids=[1]),
        "ends of nothing": lambda: ends(database=base, table="user", ids=[]),
        "open_tables": lambda: open_tables(schema=schema, start="user"),
        "can_go": lambda: can_go(schema=schema, start="user", tables=["cart", "user"]),
        "conflicts": lambda: conflicts(schema=schema, start=None),
        "conflicts of one": lambda: conflicts(schema=schema, start="user"),
        "is_order_free": lambda: is_order_free(schema=schema),
        "witness": lambda: witness(schema=schema),
        "parts": lambda: parts(schema=schema, value=witness(schema)),
    }


def free():
    """The order-free schema of the document's examples."""
    return shop().changed(("cart", "payer", "user"), "set_null")


def of_order_free(schema, base):
    """Calls of what asks for an order-free schema, and of `changes`."""
    return {
        "certificate": lambda: certificate(schema=schema),
        "certifies": lambda: certifies(schema=schema, value=certificate(schema)),
        "fewest_changes": lambda: fewest_changes(schema=schema),
        "fewest_changes of the shop": lambda: fewest_changes(schema=shop()),
        "allowed": lambda: allowed(schema=schema, reference=("cart", "payer", "user")),
        "end_of": lambda: end_of(database=base, table="user", ids=[2]),
        "end_of nothing": lambda: end_of(database=base, table="user", ids=[]),
        "reasons": lambda: reasons(database=base, table="user", ids=[2]),
        "reasons of nothing": lambda: reasons(database=base, table="user", ids=[]),
        "explains": lambda: explains(database=base, table="user", ids=[2], value=reasons(base, "user", [2])),
        "console": lambda: [Console(schema=schema).say(line=line) for line in ("insert user 1", "show")],
    }


class Returned(Case):
    def check(self, calls, state):
        before = state()
        for name, call in calls.items():
            expected = copy.deepcopy(plain(call()))
            kept = call()
            spoil(call())
            self.assertTrue(same(expected, plain(kept)), name)
            self.assertTrue(same(expected, plain(call())), name)
            self.assertEqual(before, state(), name)

    def test_of_a_schema(self):
        schema = shop()
        self.check(of_schema(schema), lambda: str(schema))
        self.assertEqual(shop(), schema)

    def test_of_a_database(self):
        base = stocked()
        self.check(of_database(base), lambda: str(base))
        self.assertEqual(stocked(), base)

    def test_of_a_database_with_faults(self):
        base = read_database(shop(), FAULTY)
        calls = of_database(base)
        del calls["deleted"]
        self.check(calls, lambda: str(base))

    def test_of_the_modules(self):
        schema, base = shop(), stocked()
        self.check(of_modules(schema, base), lambda: (str(schema), str(base)))
        self.assertEqual((shop(), stocked()), (schema, base))

    def test_of_an_order_free_schema(self):
        schema = free()
        base = read_database(schema, str(stocked()))
        self.check(of_order_free(schema, base), lambda: (str(schema), str(base)))
        self.assertEqual((free(), read_database(free(), str(stocked()))), (schema, base))

    def test_rows_of_walk(self):
        base = stocked()
        for _, _, values in base.walk():
            values.clear()
        self.assertEqual(stocked(), base)

    def test_databases_have_nothing_to_undo(self):
        base = stocked()
        base.insert("user", 5, {})
        base.delete("cart", [8])
        found = [base.copy(), replay(base, "user", [5], [event for event in events_of(base.schema, "user", 5)]),
                 *ends(base, "user", [5]), read_database(shop(), str(base)), witness(base.schema)[0], replay(base, "user", [], [])]
        self.assertEqual(6, len(found))
        for made in found:
            self.fails(NothingToUndo, {}, made.undo)
        base.undo()
        base.undo()
        self.assertEqual(stocked(), base)
        base = read_database(free(), str(stocked()))
        base.insert("user", 5, {})
        for made in (end_of(base, "user", []), end_of(base, "user", [2])):
            self.assertEqual(free(), made.schema)
            self.fails(NothingToUndo, {}, made.undo)

    def test_the_schema_of_a_database_that_is_returned(self):
        base = stocked()
        for made in (base.copy(), replay(base, "user", [], []), *ends(base, "user", []), witness(base.schema)[0]):
            self.assertEqual(shop(), made.schema)
            self.assertEqual(base.schema, made.schema)


class Passed(Case):
    def test_lists_and_dicts_stay_as_they_are(self):
        base, schema = stocked(), shop()
        ids, events, tables, references, values = [1], [OWNER, PAYER], ["cart", "user", "cart"], schema.references(), {"owner": 1}
        passed = [ids, events, tables, references, values]
        before = copy.deepcopy(passed)
        replay(base, "user", ids, events)
        ends(base, "user", ids)
        can_go(schema, "user", tables)
        schema.closure(tables)
        schema.relaxed(references)
        base.insert("cart", 70, values)
        base.delete("user", ids)
        parts(schema, (stocked(), "user", ids, events, [PAYER]))
        self.assertEqual(before, passed)

    def test_lists_and_dicts_for_an_order_free_schema(self):
        base, schema = read_database(free(), str(stocked())), free()
        ids, stages, told = [2, 1, 2], certificate(schema), reasons(base, "user", [1, 2])
        before = copy.deepcopy([ids, stages, told])
        end = end_of(base, "user", ids)
        self.assertTrue(explains(base, "user", ids, told))
        self.assertTrue(certifies(schema, stages))
        made = reasons(base, "user", ids)
        self.assertEqual(before, [ids, stages, told])
        for value in (ids, stages, told):
            value.clear()
        self.assertEqual(Database(free()), end)
        self.assertEqual(before[2], made)
        self.assertTrue(certifies(schema, before[1]))

    def test_a_console_has_a_schema_of_its_own(self):
        column = Column("owner", ("user", "cascade"))
        table = Table("cart", column)
        schema = Schema(Table("user"), table)
        console = Console(schema)
        column.links, table.parts = (), ()
        self.assertEqual(["ok", "cart 1 owner user"], [console.say("insert cart 1 owner=1"), console.say("faults")])

    def test_they_may_be_changed_later(self):
        base, values, ids, events = stocked(), {"owner": 1, "payer": None}, [1], [OWNER, PAYER]
        end = replay(base, "user", ids, events)
        text = str(end)
        found = ends(base, "user", ids)
        texts = [str(one) for one in found]
        base.insert("cart", 70, values)
        for value in (values, ids, events):
            value.clear()
        self.assertEqual({"owner": 1, "payer": None}, base.record("cart", 70))
        self.assertEqual(text, str(end))
        self.assertEqual(texts, [str(one) for one in found])
        fired = base.delete("user", [1])
        base.undo()
        fired.clear()
        self.assertEqual({"owner": 1, "payer": None}, base.record("cart", 70))

    def test_a_database_that_changes_later(self):
        base = stocked()
        end, found = replay(base, "user", [], []), ends(base, "user", [])
        base.delete("user", [1])
        base.insert("user", 8, {})
        self.assertEqual(stocked(), end)
        self.assertEqual([stocked()], found)

    def test_fields_of_a_column_that_change_later(self):
        column = Column("owner", ("user", "cascade"))
        table = Table("cart", column, Column("payer", ("user", "restrict"), nullable=True))
        schema = Schema(Table("user"), table)
        base = Database(schema)
        column.links, column.nullable, table.parts = (), True, ()
        self.assertEqual(SHOP, str(schema))
        self.assertEqual(SHOP, str(base.schema))
        self.assertEqual(conflicts(shop()), conflicts(schema))

    def test_errors_change_nothing(self):
        base, schema = stocked(), shop()
        ids, events, tables = [1], [OWNER], ["user", "x"]
        self.fails(BadRun, {"index": 1}, replay, base, "user", ids, events)
        self.fails(NoTable, {"table": "x"}, can_go, schema, "user", tables)
        self.fails(NoTable, {"table": "x"}, conflicts, schema, start="x")
        self.fails(NoTable, {"table": "x"}, ends, base, "x", ids)
        self.assertEqual(([1], [OWNER], ["user", "x"]), (ids, events, tables))
        self.assertEqual((shop(), stocked()), (schema, base))
        self.fails(NothingToUndo, {}, base.copy().undo)
        for call in (end_of, reasons, lambda *passed: explains(*passed, {})):
            self.fails(NotFree, {"conflict": conflicts(schema)[0]}, call, base, "user", ids)
        self.fails(NotFree, {"conflict": conflicts(schema)[0]}, certificate, schema)
        refusing = read_database(shop().changed(("cart", "owner", "user"), "no_action"), str(base))
        self.fails(Refused, {"cause": None}, reasons, refusing, "user", ids)
        self.assertEqual((shop(), stocked(), [1]), (schema, base, ids))
        self.assertEqual(str(base), str(refusing))
        self.fails(NothingToUndo, {}, refusing.undo)


class Defined(Case):
    def test_functions_stand_in_their_files(self):
        homes = {"runs": [events_of, replay, ends], "worlds": [open_tables, can_go],
                 "conflicts": [conflicts, is_order_free], "witnesses": [witness, parts],
                 "certificates": [certificate, certifies], "changes": [fewest_changes, allowed],
                 "reasons": [end_of, reasons, explains], "console": [Console]}
        for name, functions in homes.items():
            for function in functions:
                self.assertEqual("keyactions." + name, function.__module__)

    def test_names_of_the_arguments(self):
        told = {events_of: "schema table row", replay: "database table ids events", ends: "database table ids",
                open_tables: "schema start", can_go: "schema start tables", conflicts: "schema", is_order_free: "schema",
                witness: "schema", parts: "schema value", certificate: "schema", certifies: "schema value",
                fewest_changes: "schema", allowed: "schema reference", end_of: "database table ids",
                reasons: "database table ids", explains: "database table ids value", Console.__init__: "self schema",
                Console.say: "self line"}
        for function, names in told.items():
            self.assertEqual(tuple(names.split()), function.__code__.co_varnames[:function.__code__.co_argcount])
            self.assertIsNone(function.__defaults__)
        self.assertEqual({"start": None}, conflicts.__kwdefaults__)

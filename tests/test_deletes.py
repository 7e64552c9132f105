"""Deletes [7]: events, runs and actions."""

import random
import unittest

from keyactions.databases import Database, read_database
from keyactions.errors import BadChoice, NoRow, NothingToUndo, NotValid, NoTable, Refused
from keyactions.schemas import Schema, read_schema
from samples import Case, odd_numbers, odd_values, shop, stocked
from test_schemas import random_tables


class Stop(Exception):
    """An error of the caller."""


def first(pending):
    return pending[0]


def last(pending):
    return pending[-1]


def one_action(action, text="row a 1\nrow a 2\nrow b 5 x=1\nrow b 6 x=2\nrow b 7 x=1"):
    """A database in which a column with one reference names rows."""
    return read_database(read_schema(f"table a\ntable b\ncolumn x null default=2 a:{action}"), text)


class Actions(Case):
    def test_cascade(self):
        base = one_action("cascade")
        self.assertEqual([("b", "x", "a", 1)], base.delete("a", [1]))
        self.assertEqual("row a 2\nrow b 6 x=2", str(base))

    def test_set_null(self):
        base = one_action("set_null")
        self.assertEqual([("b", "x", "a", 1)], base.delete("a", [1]))
        self.assertEqual("row a 2\nrow b 5 x=null\nrow b 6 x=2\nrow b 7 x=null", str(base))

    def test_set_default(self):
        base = one_action("set_default")
        self.assertEqual([("b", "x", "a", 1)], base.delete("a", [1]))
        self.assertEqual("row a 2\nrow b 5 x=2\nrow b 6 x=2\nrow b 7 x=2", str(base))

    def test_set_default_without_a_default(self):
        schema = read_schema("table a\ntable b\ncolumn x null a:set_default")
        base = read_database(schema, "row a 1\nrow b 5 x=1\nrow b 6")
        self.assertEqual([("b", "x", "a", 1)], base.delete("a", [1]))
        self.assertEqual("row b 5 x=null\nrow b 6 x=null", str(base))

    def test_restrict(self):
        base = one_action("restrict")
        before = base.copy()
        self.fails(Refused, {"cause": ("b", "x", "a", 1)}, base.delete, "a", [1])
        self.assertEqual(before, base)
        base = one_action("restrict", "row a 1\nrow a 2\nrow b 6 x=2\nrow b 7 x=null")
        self.assertEqual([("b", "x", "a", 1)], base.delete("a", [1]))
        self.assertEqual("row a 2\nrow b 6 x=2\nrow b 7 x=null", str(base))

    def test_no_action(self):
        base = one_action("no_action")
        before = base.copy()
        self.fails(Refused, {"cause": ("b", 5, "x", "a")}, base.delete, "a", [1])
        self.assertEqual(before, base)
        self.fails(NothingToUndo, {}, base.undo)
        base = one_action("no_action", "row a 1\nrow a 2\nrow b 6 x=2")
        self.assertEqual([("b", "x", "a", 1)], base.delete("a", [1]))

    def test_no_row_is_hit(self):
        for action in ("cascade", "set_null", "set_default", "restrict", "no_action"):
            base = one_action(action, "row a 1\nrow a 2\nrow b 6 x=2\nrow b 1")
            self.assertEqual([("b", "x", "a", 1)], base.delete("a", [1]))
            self.assertEqual("row a 2\nrow b 1 x=2\nrow b 6 x=2", str(base))

    def test_the_row_of_a_default_goes(self):
        for action in ("cascade", "set_null", "set_default", "no_action"):
            base = one_action(action)
            before = base.copy()
            self.fails(Refused, {"cause": ("b", None, "x", "a")}, base.delete, "a", [2])
            self.assertEqual(before, base)

    def test_id_cascades(self):
        base = read_database(read_schema("table a\ntable b a:cascade"), "row a 1\nrow a 2\nrow b 1")
        self.assertEqual([("b", "id", "a", 1), ("b", "id", "a", 2)], base.delete("a", [1, 2]))
        self.assertEqual(0, len(base))
        base.undo()
        base.delete("b", [1])
        self.assertEqual("row a 1\nrow a 2", str(base))

    def test_id_restricts(self):
        base = read_database(read_schema("table a\ntable b a:restrict"), "row a 1\nrow a 2\nrow b 1")
        self.fails(Refused, {"cause": ("b", "id", "a", 1)}, base.delete, "a", [2, 1])
        self.assertEqual([("b", "id", "a", 2)], base.delete("a", [2]))

    def test_id_does_nothing(self):
        base = read_database(read_schema("table a\ntable b a:no_action"), "row a 1\nrow a 2\nrow b 1")
        self.fails(Refused, {"cause": ("b", 1, "id", "a")}, base.delete, "a", [1])
        self.assertEqual([("b", "id", "a", 2)], base.delete("a", [2]))

    def test_cascades_go_on(self):
        schema = read_schema("table a\ncolumn x null a:cascade")
        base = read_database(schema, "row a 1\nrow a 2 x=1\nrow a 3 x=2\nrow a 4 x=3\nrow a 5\nrow a 6 x=2\nrow a 7 x=7")
        self.assertEqual([("a", "x", "a", row) for row in (1, 2, 3, 4, 6)], base.delete("a", [1]))
        self.assertEqual("row a 5 x=null\nrow a 7 x=7", str(base))
        base.delete("a", [7])
        self.assertEqual([5], base.ids("a"))

    def test_deleted_rows_go_at_once(self):
        base = read_database(read_schema("table a\ncolumn x null a:restrict"), "row a 1 x=2\nrow a 2 x=1\nrow a 3")
        self.fails(Refused, {"cause": ("a", "x", "a", 1)}, base.delete, "a", [1])
        self.assertEqual([("a", "x", "a", 1), ("a", "x", "a", 2)], base.delete("a", [2, 1]))

    def test_an_event_looks_at_its_moment(self):
        schema = read_schema("table a\ntable b\ncolumn x default=2 a:set_default b:restrict")
        text = "row a 1\nrow a 2\nrow b 1 x=2\nrow b 2 x=2\nrow b 3 x=1"
        base = read_database(schema, text)
        self.fails(Refused, {"cause": ("b", "x", "b", 1)}, base.delete, "b", [1])
        # Row 3 no longer has the value 1 when the rows with it are looked for.
        self.assertEqual([("b", "x", "a", 1)], base.delete("a", [1]))
        self.assertEqual({"x": 2}, base.record("b", 3))

    def test_a_value_that_another_action_has_set(self):
        schema = read_schema("table z\ntable b z:cascade\ntable c\ncolumn x null z:set_null b:restrict")
        base = read_database(schema, "row z 1\nrow b 1\nrow c 1 x=1")
        self.fails(Refused, {"cause": ("c", "x", "b", 1)}, base.delete, "z", [1], choose=first)
        self.assertEqual([("c", "x", "z", 1), ("b", "id", "z", 1), ("c", "x", "b", 1)],
                         base.delete("z", [1], choose=last))
        self.assertEqual("row c 1 x=null", str(base))

    def test_only_the_column_of_the_reference_changes(self):
        schema = read_schema("table a\ntable b\ncolumn x null a:set_null\ncolumn y null\ncolumn z null a:no_action")
        base = read_database(schema, "row a 1\nrow a 2\nrow b 1 x=1 y=1 z=2")
        base.delete("a", [1])
        self.assertEqual("row a 2\nrow b 1 x=null y=1 z=2", str(base))


class Events(Case):
    def test_each_reference_makes_an_event(self):
        schema = read_schema("table a\ncolumn x null a:set_null\ntable b a:no_action\ncolumn y null a:cascade b:restrict")
        base = read_database(schema, "row a 1\nrow a 5\nrow b 5 y=5")
        self.assertEqual([("a", "x", "a", 1), ("b", "id", "a", 1), ("b", "y", "a", 1)], base.delete("a", [1]))
        self.assertEqual([("b", "y", "b", 5)], base.delete("b", [5]))

    def test_no_reference_no_event(self):
        base = stocked()
        self.assertEqual([], base.delete("cart", [7, 9]))
        self.assertEqual([8], base.ids("cart"))

    def test_no_ids(self):
        base = stocked()
        self.assertEqual([], base.delete("user", []))
        self.assertEqual(stocked(), base)
        base.undo()
        self.fails(NothingToUndo, {}, base.undo)

    def test_an_id_twice(self):
        base = one_action("cascade")
        ids = [1, 1, 1]
        self.assertEqual([("b", "x", "a", 1)], base.delete("a", ids))
        self.assertEqual([1, 1, 1], ids)

    def test_the_first_pending_event_is_fired_each_time(self):
        base = one_action("cascade", "row a -3\nrow a 10\nrow a 9\nrow a 2\nrow b 1 x=9")
        self.assertEqual([("b", "x", "a", row) for row in (-3, 9, 10)], base.delete("a", [10, -3, 9]))
        schema = read_schema("table a\ntable z\ncolumn x null a:cascade\ntable b\ncolumn y null z:cascade\ntable c\n"
                             "column w null a:no_action")
        base = read_database(schema, "row a 1\nrow z 5 x=1\nrow z 6 x=1\nrow b 1 y=6")
        self.assertEqual([("c", "w", "a", 1), ("z", "x", "a", 1), ("b", "y", "z", 5), ("b", "y", "z", 6)],
                         base.delete("a", [1]))

    def test_rows_of_40_digits(self):
        big = 10 ** 40 - 1
        base = one_action("cascade", f"row a 2\nrow a {big}\nrow a -{big}\nrow b 1 x=-{big}\nrow b 2 x={big}")
        self.assertEqual([("b", "x", "a", -big), ("b", "x", "a", big)], base.delete("a", [big, -big]))
        self.assertEqual("row a 2", str(base))

    def test_a_full_database(self):
        schema = read_schema("table a\ncolumn x null a:cascade\ncolumn y null a:set_null\ncolumn z null a:no_action")
        lines = ["row a 0"] + [f"row a {row} x={row - 1} y={row - 1}" for row in range(1, 400)]
        base = read_database(schema, "\n".join(lines))
        self.assertEqual(1200, len(base.copy().delete("a", [0])))
        fired = base.delete("a", [0], choose=last)
        self.assertEqual(1200, len(fired))
        self.assertEqual(1200, len({event for event in fired}))
        self.assertEqual(0, len(base))
        base.undo()
        self.assertEqual(400, len(base))


class Choosing(Case):
    def test_first_and_none_are_the_same(self):
        for ids in ([1], [1, 2], []):
            one, other = two_ways(), two_ways()
            self.assertEqual(one.delete("a", ids), other.delete("a", ids, choose=first))
            self.assertEqual(one, other)

    def test_the_order_can_matter(self):
        base = stocked()
        self.fails(Refused, {"cause": ("cart", "payer", "user", 1)}, base.delete, "user", [1], choose=last)
        self.assertEqual([("cart", "owner", "user", 1), ("cart", "payer", "user", 1)],
                         base.delete(table="user", ids=[1], choose=first))

    def test_the_list_of_pending_events(self):
        seen = []

        def choose(pending):
            seen.append(list(pending))
            return pending[len(pending) // 2]
        base = two_ways()
        fired = base.delete("a", [2, 1], choose=choose)
        self.assertEqual(len(fired), len(seen))
        pending = {("b", "x", "a", 1), ("b", "x", "a", 2), ("c", "y", "a", 1), ("c", "y", "a", 2)}
        self.assertEqual(sorted(pending), seen[0])
        for event, told in zip(fired, seen):
            self.assertEqual(sorted(pending), told)
            pending.remove(event)
            if event[:2] == ("b", "x"):
                pending |= {("c", "z", "b", row) for row in (5, 6, 7) if two_ways().record("b", row)["x"] == event[3]}
        self.assertEqual(set(), pending)

    def test_the_list_is_new_each_time(self):
        lists = []

        def choose(pending):
            lists.append(pending)
            event = pending[-1]
            pending.clear()
            pending.append("more")
            return event
        one, other = two_ways(), two_ways()
        self.assertEqual(one.delete("a", [1, 2], choose=last), other.delete("a", [1, 2], choose=choose))
        self.assertEqual(one, other)
        self.assertEqual(len(lists), len({id(pending) for pending in lists}))

    def test_the_result_is_a_new_list_of_tuples(self):
        base = two_ways()
        fired = base.delete("a", [1])
        self.assertIsInstance(fired, list)
        fired.clear()
        base.undo()
        self.assertEqual(two_ways(), base)
        self.assertTrue(all(isinstance(event, tuple) for event in base.delete("a", [1])))

    def test_an_equal_event_will_do(self):
        base = stocked()
        fired = base.delete("user", [1], choose=lambda pending: tuple(list(pending[0])))
        self.assertEqual([("cart", "owner", "user", 1), ("cart", "payer", "user", 1)], fired)

    def test_while_it_is_called_the_database_is_as_before(self):
        base, seen = two_ways(), []

        def choose(pending):
            seen.append(base.copy())
            base.attempt(lambda same: same.delete("c", same.ids("c")))
            return pending[0]
        base.delete("a", [1, 2], choose=choose)
        self.assertEqual(7, len(seen))
        for before in seen:
            self.assertEqual(two_ways(), before)
        self.assertEqual("row c 9 y=null z=null", str(base))

    def test_something_else_is_returned(self):
        base = stocked()
        values = [("cart", "owner", "user", True), ("cart", "owner", "user", 2), ("cart", "owner", "user"),
                  ["cart", "owner", "user", 1], ("cart", "owner", "user", 1, 1), ("owner", "cart", "user", 1),
                  ("cart", "owner", "user", "1"), [("cart", "owner", "user", 1)], ("cart", "owner", "user", [1])]
        for value in values + odd_values() + odd_numbers():
            with self.subTest(value=value):
                self.fails(BadChoice, {"value": value}, base.delete, "user", [1], choose=lambda pending: value)
                self.assertEqual(stocked(), base)
        self.fails(NothingToUndo, {}, base.undo)

    def test_true_is_no_id_of_an_event(self):
        base = one_action("cascade")
        value = ("b", "x", "a", True)
        self.fails(BadChoice, {"value": value}, base.delete, "a", [1], choose=lambda pending: value)
        self.assertEqual(one_action("cascade"), base)

    def test_the_whole_list_is_returned(self):
        event = ("cart", "owner", "user", 1)
        self.fails(BadChoice, {"value": [event, ("cart", "payer", "user", 1)]}, stocked().delete, "user", [1],
                   choose=lambda pending: pending)

    def test_an_event_that_was_fired_is_returned_again(self):
        base = stocked()
        event = ("cart", "owner", "user", 1)
        self.fails(BadChoice, {"value": event}, base.delete, "user", [1], choose=lambda pending: event)
        self.assertEqual(stocked(), base)

    def test_it_raises(self):
        base = stocked()

        def choose(pending):
            if len(pending) == 1:
                raise Stop()
            return pending[0]
        with self.assertRaises(Stop):
            base.delete("user", [1], choose=choose)
        self.assertEqual(stocked(), base)
        self.fails(NothingToUndo, {}, base.undo)

    def test_it_is_not_called_without_events(self):
        self.assertEqual([], stocked().delete("cart", [7], choose=lambda pending: 1 // 0))
        self.assertEqual([], stocked().delete("user", [], choose=lambda pending: 1 // 0))

    def test_it_is_not_called_after_a_refusal(self):
        base, seen = stocked(), []
        self.fails(Refused, {"cause": ("cart", "payer", "user", 1)}, base.delete, "user", [1, 2],
                   choose=lambda pending: seen.append(pending) or pending[2])
        self.assertEqual(1, len(seen))

    def test_it_is_passed_by_name_only(self):
        with self.assertRaises(TypeError):
            stocked().delete("user", [1], first)


class Refusing(Case):
    def test_order_of_the_errors(self):
        base = read_database(shop(), "row user 1\nrow cart 7 owner=5\nrow cart 6 owner=1 payer=3")
        fault = ("cart", 6, "payer", "user")
        self.assertEqual([fault, ("cart", 7, "owner", "user")], base.faults())
        self.fails(NoTable, {"table": "x"}, base.delete, "x", [9, []], choose=lambda pending: 1)
        self.fails(NoRow, {"table": "user", "row": 9}, base.delete, "user", [1, 9, 8], choose=lambda pending: 1)
        self.fails(NotValid, {"fault": fault}, base.delete, "user", [1], choose=lambda pending: 1)
        self.fails(NotValid, {"fault": fault}, base.delete, "user", [])
        self.fails(NotValid, {"fault": fault}, base.delete, "cart", [6, 7])

    def test_no_table(self):
        base = stocked()
        for value in odd_values() + odd_numbers() + ["users", "id"]:
            with self.subTest(value=value):
                self.fails(NoTable, {"table": value}, base.delete, value, [])

    def test_no_row(self):
        base = stocked()
        for value in odd_values() + [3, 0, -1, 10 ** 40, "1", ("user", 1)]:
            with self.subTest(value=value):
                self.fails(NoRow, {"table": "user", "row": value}, base.delete, "user", [value])
                self.fails(NoRow, {"table": "user", "row": value}, base.delete, "user", [2, 1, value, 77])
        self.fails(NoRow, {"table": "cart", "row": 1}, base.delete, "cart", [7, 1])
        self.assertEqual(stocked(), base)

    def test_the_fault_of_a_default_comes_first(self):
        base = Database(read_schema("table a\ntable b\ncolumn x default=4 a:cascade"))
        base.insert("b", 1, {})
        self.fails(NotValid, {"fault": ("b", None, "x", "a")}, base.delete, "b", [1])

    def test_the_first_fault_in_the_end(self):
        schema = read_schema("table c\ncolumn x null a:no_action\ntable a\ntable b a:no_action\ncolumn y default=3 a:no_action")
        base = read_database(schema, "row a 1\nrow a 2\nrow a 3\nrow b 1\nrow c 8 x=2\nrow c 7 x=1")
        before = base.copy()
        self.fails(Refused, {"cause": ("c", 8, "x", "a")}, base.delete, "a", [2])
        self.fails(Refused, {"cause": ("c", 7, "x", "a")}, base.delete, "a", [1, 2])
        self.fails(Refused, {"cause": ("b", None, "y", "a")}, base.delete, "a", [1, 2, 3])
        base.delete("c", [7, 8])
        self.fails(Refused, {"cause": ("b", 1, "id", "a")}, base.delete, "a", [1, 2])
        base.undo()
        self.assertEqual(before, base)
        self.fails(NothingToUndo, {}, base.undo)

    def test_restrict_refuses_before_the_end(self):
        schema = read_schema("table a\ntable b\ncolumn x null a:restrict\ntable c\ncolumn y null a:no_action")
        base = read_database(schema, "row a 1\nrow b 1 x=1\nrow c 1 y=1")
        self.fails(Refused, {"cause": ("b", "x", "a", 1)}, base.delete, "a", [1])
        base.delete("b", [1])
        self.fails(Refused, {"cause": ("c", 1, "y", "a")}, base.delete, "a", [1])

    def test_no_action_is_done_if_the_row_goes_otherwise(self):
        schema = read_schema("table a\ntable b\ncolumn x a:cascade\ncolumn y null a:no_action")
        base = read_database(schema, "row a 1\nrow a 2\nrow b 1 x=1 y=1\nrow b 2 x=2 y=1")
        self.fails(Refused, {"cause": ("b", 2, "y", "a")}, base.delete, "a", [1])
        base.delete("b", [2])
        base.delete("a", [1], choose=last)
        self.assertEqual("row a 2", str(base))


def two_ways():
    """A database with two cascades, one behind the other, and values that become None."""
    schema = read_schema("table a\ntable b\ncolumn x a:cascade\ntable c\ncolumn y null a:set_null\n"
                         "column z null b:set_null\ntable d\ncolumn w null")
    return read_database(schema, "row a 1\nrow a 2\nrow b 5 x=2\nrow b 6 x=1\nrow b 7 x=2\nrow c 9 y=1 z=6")


class Model:
    """Deletes once more, on a flat list of rows, in the words of the document."""

    def __init__(self, base):
        self.schema = base.schema
        self.rows = [(table, {"id": row, **values}) for table, row, values in base.rows()]
        self.pending = []

    def go(self, gone):
        self.rows = [row for row in self.rows if row not in gone]
        for table, values in gone:
            self.pending += [(*link, values["id"]) for link in self.schema.references(target=table)]

    def fire(self, event, defaults):
        self.pending.remove(event)
        table, column, target, row = event
        hit = [entry for entry in self.rows if entry[0] == table and entry[1][column] == row]
        action = self.schema.action((table, column, target))
        if action == "restrict" and hit:
            return False
        if action == "cascade":
            self.go(hit)
        if action in ("set_null", "set_default"):
            value = defaults[(table, column)] if action == "set_default" else None
            self.rows = [(name, {**values, column: value}) if (name, values) in hit else (name, values)
                         for name, values in self.rows]
        return True

    def entries(self):
        order = self.schema.tables()
        lines = sorted(self.rows, key=lambda entry: (order.index(entry[0]), entry[1]["id"]))
        return [(table, values["id"], {name: values[name] for name in values if name != "id"}) for table, values in lines]


def run(base, table, ids, chance, defaults):
    """One run: what is left, the events, and the one that refuses the delete, or None."""
    model, fired = Model(base), []
    model.go([entry for entry in model.rows if entry[0] == table and entry[1]["id"] in ids])
    while model.pending:
        event = chance.choice(sorted(model.pending))
        fired.append(event)
        if not model.fire(event, defaults):
            return model, fired, event
    return model, fired, None


def valid_database(schema, chance):
    """Some valid database, if the defaults allow it: rows that are at fault are left out again and again."""
    rows = {}
    for _ in range(chance.randint(0, 14)):
        table = chance.choice(schema.tables())
        rows[(table, chance.choice([0, 1, 2, -7]))] = {
            name: chance.choice([0, 1, 2, -7]) for name in schema.columns(table)
        }
    while True:
        base = Database(schema)
        for (table, row), values in rows.items():
            base.insert(table, row, values)
        wrong = [fault for fault in base.faults() if fault[1] is not None]
        if not wrong:
            return base
        for fault in wrong:
            rows.pop((fault[0], fault[1]), None)


def random_delete(chance):
    """Some valid database with 3 rows or more, a table, ids of its rows, and the defaults of all columns."""
    while True:
        tables = random_tables(chance)
        base = valid_database(Schema(*tables), chance)
        if base.is_valid() and len(base) >= 3:
            table = chance.choice([name for name in base.schema.tables() if base.ids(name)])
            ids = chance.sample(base.ids(table), chance.randint(1, len(base.ids(table))))
            return base, table, ids, {(part.name, column.name): column.default for part in tables for column in part.parts}


class AgainstTheModel(Case):
    def test_random_deletes(self):
        chance = random.Random(7)
        done = refused = faulty = 0
        while done < 300 or refused < 100 or faulty < 100:
            base, table, ids, defaults = random_delete(chance)
            seed = chance.random()
            model, fired, cause = run(base, table, ids, random.Random(seed), defaults)
            before, picks, left = base.copy(), random.Random(seed), Database(base.schema)
            for entry in model.entries():
                left.insert(*entry)
            if cause is None and left.faults():
                cause = left.faults()[0]
                faulty += 1
            elif cause is not None:
                refused += 1
            if cause is not None:
                self.fails(Refused, {"cause": cause}, base.delete, table, ids, choose=picks.choice)
                self.assertEqual(before, base)
                continue
            done += 1
            self.assertEqual(fired, base.delete(table, ids, choose=picks.choice))
            self.assertEqual(model.entries(), base.rows())
            self.assertEqual(left, base)
            base.undo()
            self.assertEqual(before, base)


if __name__ == "__main__":
    unittest.main()

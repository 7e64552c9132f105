"""Databases [6]: rows, values, faults and validity."""

import random
import types
import unittest

from keyactions.databases import Database, read_database
from keyactions.errors import BadValue, Full, NoColumn, NoRow, NothingToUndo, NoTable, Taken
from keyactions.schemas import Schema, Table, read_schema
from samples import MANY, Case, odd_numbers, odd_values, shop, stocked

NO_TABLES = odd_values() + odd_numbers() + ["users", "use", "id", "User"]
NO_IDS = [value for value in odd_values() if not isinstance(value, int) or isinstance(value, bool)] + ["1", "7", 10 ** 40]
NO_INTEGERS = odd_values() + ["1", (1,), [1]]
KINDS = "table t\ncolumn a\ncolumn b null\ncolumn c default=5"


def kinds():
    """A schema without references, with columns of three kinds."""
    return read_schema(KINDS)


class Inserting(Case):
    def test_all_values(self):
        base = Database(kinds())
        self.assertIsNone(base.insert("t", 1, {"a": 3, "b": None, "c": -4}))
        base.insert(table="t", row=-2, values={"c": 9, "b": 8, "a": 7})
        self.assertEqual({"a": 3, "b": None, "c": -4}, base.record("t", 1))
        self.assertEqual({"a": 7, "b": 8, "c": 9}, base.record(table="t", row=-2))
        self.assertEqual(["a", "b", "c"], list(base.record("t", -2)))

    def test_values_that_are_left_out(self):
        base = Database(read_schema("table t\ncolumn a default=0\ncolumn b null\ncolumn c null default=5"))
        base.insert("t", 1, {})
        base.insert("t", 2, {"b": 6})
        base.insert("t", 3, {"c": None, "a": 1})
        self.assertEqual({"a": 0, "b": None, "c": 5}, base.record("t", 1))
        self.assertEqual({"a": 0, "b": 6, "c": 5}, base.record("t", 2))
        self.assertEqual({"a": 1, "b": None, "c": None}, base.record("t", 3))

    def test_ids_and_values_of_40_digits(self):
        big = 10 ** 40 - 1
        base = Database(kinds())
        base.insert("t", big, {"a": -big, "c": big})
        base.insert("t", -big, {"a": 0})
        self.assertEqual([-big, big], base.ids("t"))
        self.assertEqual({"a": -big, "b": None, "c": big}, base.record("t", big))

    def test_ids_are_apart_in_each_table(self):
        base = Database(shop())
        base.insert("user", 1, {})
        base.insert("cart", 1, {"owner": 1})
        self.assertEqual([[1], [1]], [base.ids("user"), base.ids("cart")])

    def test_no_table(self):
        base = stocked()
        for value in NO_TABLES:
            with self.subTest(value=value):
                self.fails(NoTable, {"table": value}, base.insert, value, 1, {})
        self.assertEqual(stocked(), base)

    def test_ids_that_are_no_integers(self):
        base = stocked()
        for value in NO_INTEGERS:
            with self.subTest(value=value):
                self.fails(BadValue, {"column": "id"}, base.insert, "user", value, {})
        self.assertEqual(stocked(), base)

    def test_a_taken_id(self):
        base = stocked()
        self.fails(Taken, {"table": "cart", "row": 8}, base.insert, "cart", 8, {"owner": 1})
        base.insert("cart", 1, {"owner": 1})
        base.insert("user", 8, {})

    def test_no_column(self):
        base = stocked()
        self.fails(NoColumn, {"column": "id"}, base.insert, "user", 3, {"id": 3})
        self.fails(NoColumn, {"column": "user"}, base.insert, "cart", 3, {"owner": 1, "user": 1})
        self.fails(NoColumn, {"column": "A"}, base.insert, "cart", 3, {"zz": 1, "owner": 1, "b": 1, "A": [], "a": 1})
        self.fails(NoColumn, {"column": ""}, base.insert, "cart", 3, {"a": 1, "": 1})
        self.assertEqual(stocked(), base)

    def test_values_that_are_no_integers(self):
        for value in NO_INTEGERS:
            base = Database(kinds())
            with self.subTest(value=value):
                self.fails(BadValue, {"column": "a"}, base.insert, "t", 1, {"a": value, "b": value})
                self.fails(BadValue, {"column": "c"}, base.insert, "t", 1, {"c": value, "a": 1})
                if value is None:
                    base.insert("t", 1, {"a": 1, "b": value})
                else:
                    self.fails(BadValue, {"column": "b"}, base.insert, "t", 1, {"a": 1, "b": value, "c": value})
                    self.assertEqual(0, len(base))

    def test_a_column_without_default_that_is_left_out(self):
        base = Database(kinds())
        self.fails(BadValue, {"column": "a"}, base.insert, "t", 1, {})
        self.fails(BadValue, {"column": "a"}, base.insert, "t", 1, {"b": True, "c": None})
        self.fails(BadValue, {"column": "c"}, base.insert, "t", 1, {"a": 1, "c": None})

    def test_at_most_400_rows(self):
        base = Database(shop())
        for row in range(200):
            base.insert("user", row, {})
            base.insert("cart", -row, {"owner": 0})
        self.assertEqual(400, len(base))
        before = base.copy()
        self.fails(Full, {"most": 400}, base.insert, "user", 200, {})
        self.fails(Full, {"most": 400}, base.insert, "cart", 200, {"owner": 5})
        self.assertEqual(before, base)
        base.undo()
        self.assertEqual(399, len(base))
        base.insert("user", 200, {})
        self.fails(Full, {"most": 400}, base.insert, "user", 201, {})

    def test_order_of_the_errors(self):
        base = Database(shop())
        for row in range(400):
            base.insert("user", row, {})
        self.fails(NoTable, {"table": "x"}, base.insert, "x", True, {"q": True})
        self.fails(BadValue, {"column": "id"}, base.insert, "user", True, {"q": True})
        self.fails(Taken, {"table": "user", "row": 1}, base.insert, "user", 1, {"q": True})
        self.fails(NoColumn, {"column": "q"}, base.insert, "cart", 1, {"q": True, "owner": True})
        self.fails(BadValue, {"column": "owner"}, base.insert, "cart", 1, {"payer": True})
        self.fails(BadValue, {"column": "payer"}, base.insert, "cart", 1, {"payer": True, "owner": 1})
        self.fails(Full, {"most": 400}, base.insert, "cart", 1, {"payer": 1, "owner": 1})

    def test_what_is_passed_is_not_changed_and_not_kept(self):
        base = Database(kinds())
        values = {"a": 1}
        base.insert("t", 1, values)
        self.assertEqual({"a": 1}, values)
        values["a"] = 2
        values["b"] = 3
        self.assertEqual({"a": 1, "b": None, "c": 5}, base.record("t", 1))


class Asking(Case):
    def test_ids(self):
        base = stocked()
        self.assertEqual([7, 8, 9], base.ids("cart"))
        base.insert("cart", -3, {"owner": 1})
        base.insert("cart", 10, {"owner": 1})
        self.assertEqual([-3, 7, 8, 9, 10], base.ids(table="cart"))
        self.assertEqual([], Database(shop()).ids("cart"))

    def test_errors(self):
        base = stocked()
        for value in NO_TABLES:
            with self.subTest(value=value):
                self.fails(NoTable, {"table": value}, base.ids, value)
                self.fails(NoTable, {"table": value}, base.record, value, 7)
                self.fails(NoTable, {"table": value}, base.record, value, None)
        for value in NO_IDS + [6, -7]:
            with self.subTest(value=value):
                self.fails(NoRow, {"table": "cart", "row": value}, base.record, "cart", value)
        self.fails(NoRow, {"table": "user", "row": True}, base.record, "user", True)
        self.fails(NoRow, {"table": "user", "row": 7}, base.record, "user", 7)

    def test_record(self):
        base = stocked()
        self.assertEqual({"owner": 2, "payer": None}, base.record("cart", 8))
        self.assertEqual({}, base.record("user", 1))

    def test_rows_and_walk(self):
        base = Database(read_schema(MANY))
        base.insert("c", 2, {"x": 1})
        base.insert("a", 9, {"z": 3})
        base.insert("c", -5, {"x": 1, "q": 0})
        base.insert("a", -1, {"x": None})
        expected = [
            ("a", -1, {"x": None, "y": 0, "z": None}), ("a", 9, {"x": -12, "y": 0, "z": 3}),
            ("c", -5, {"x": 1, "q": 0}), ("c", 2, {"x": 1, "q": None}),
        ]
        self.assertEqual(expected, base.rows())
        self.assertEqual(expected, list(base.walk()))
        self.assertEqual(["x", "y", "z"], list(base.rows()[0][2]))
        self.assertIsInstance(base.rows(), list)
        self.assertIsInstance(base.rows()[0], tuple)
        self.assertIsInstance(base.walk(), types.GeneratorType)
        self.assertEqual([[], []], [Database(shop()).rows(), list(Database(shop()).walk())])

    def test_what_is_returned_is_new(self):
        base = stocked()
        base.ids("cart").append(5)
        base.record("cart", 7)["owner"] = 9
        for made in (base.rows(), list(base.walk())):
            made[2][2]["owner"] = 9
            made.clear()
        base.faults().append(1)
        self.assertEqual(stocked(), base)
        self.assertEqual({"owner": 1, "payer": 2}, base.record("cart", 7))

    def test_schema(self):
        schema = shop()
        base = Database(schema=schema)
        self.assertEqual(schema, base.schema)
        self.assertEqual(schema, base.copy().schema)
        self.assertEqual(schema, read_database(schema, "").schema)
        with self.assertRaises(AttributeError):
            base.schema = Schema(Table("a"))

    def test_copy(self):
        base = stocked()
        other = base.copy()
        self.assertIsNot(base, other)
        self.assertEqual(base, other)
        base.insert("user", 3, {})
        self.assertEqual(stocked(), other)
        other.delete("cart", [7])
        other.insert("user", 4, {})
        base.undo()
        self.assertEqual(stocked(), base)
        self.assertEqual([1, 2, 4], other.ids("user"))

    def test_a_copy_has_nothing_to_undo(self):
        base = stocked()
        base.insert("user", 3, {})
        other = base.copy()
        self.fails(NothingToUndo, {}, other.undo)
        self.fails(NothingToUndo, {}, stocked().undo)
        self.fails(NothingToUndo, {}, Database(shop()).undo)
        other.insert("user", 4, {})
        other.undo()
        self.fails(NothingToUndo, {}, other.undo)
        self.assertEqual(base, other)

    def test_len_and_repr(self):
        base = Database(shop())
        self.assertEqual([0, "Database(0 rows)"], [len(base), repr(base)])
        base.insert("user", 1, {})
        self.assertEqual([1, "Database(1 rows)"], [len(base), repr(base)])
        self.assertEqual([5, "Database(5 rows)"], [len(stocked()), repr(stocked())])

    def test_in(self):
        base = stocked()
        for pair in (("user", 1), ("user", 2), ("cart", 7), ("cart", 9)):
            self.assertIs(True, pair in base)
        others = [("user", 3), ("user", 7), ("cart", 1), ("user", True), ("user", None), ("user", "1"), ("user", [1]),
                  ("user", (1,)), ["user", 1], ("user", 1, 1), ("user",), (1, "user"), ("x", 1), (["user"], 1),
                  (None, 1), ({}, 1), (base, 1), "user", 1, ("user", base), (("user", 1),), ("cart", 7, {})]
        for value in others + odd_values() + odd_numbers():
            with self.subTest(value=value):
                self.assertIs(False, value in base)

    def test_equality(self):
        base = stocked()
        self.assertTrue(base == stocked())
        self.assertFalse(base != stocked())
        self.assertTrue(Database(shop()) == Database(shop()))
        more, less, changed = stocked(), stocked(), stocked()
        more.insert("user", 3, {})
        less.delete("cart", [8])
        changed.delete("cart", [8])
        changed.insert("cart", 8, {"owner": 2, "payer": 1})
        other = read_database(shop().changed(("cart", "payer", "user"), "set_null"), str(base))
        for value in [more, less, changed, other, str(base), base.rows(), shop()] + odd_values() + odd_numbers():
            with self.subTest(value=value):
                self.assertFalse(base == value)
                self.assertFalse(value == base)
                self.assertTrue(base != value)
        self.assertFalse(Database(shop()) == Database(kinds()))

    def test_equality_does_not_depend_on_the_past(self):
        one, other = Database(shop()), Database(shop())
        for row in (1, 2, 3):
            one.insert("user", row, {})
            other.insert("user", 4 - row, {})
        other.insert("user", 9, {})
        other.undo()
        self.assertEqual(one, other)
        self.assertEqual(str(one), str(other))

    def test_methods_stand_in_the_class_itself(self):
        for name in ("insert", "undo", "ids", "record", "rows", "walk", "faults", "is_valid", "copy", "schema", "delete",
                     "trial", "attempt", "__init__", "__eq__", "__len__", "__contains__", "__str__", "__repr__"):
            self.assertIn(name, vars(Database))
        self.assertIsInstance(vars(Database)["schema"], property)
        for thing in (Database, read_database):
            self.assertEqual("keyactions.databases", thing.__module__)


class Faults(Case):
    def test_a_value_without_its_row(self):
        base = Database(shop())
        base.insert("cart", 7, {"owner": 1, "payer": None})
        self.assertEqual([("cart", 7, "owner", "user")], base.faults())
        self.assertIs(False, base.is_valid())
        base.insert("user", 1, {})
        self.assertEqual([], base.faults())
        self.assertIs(True, base.is_valid())

    def test_none_is_no_fault(self):
        base = Database(read_schema("table a\ntable t\ncolumn x null a:cascade"))
        base.insert("t", 1, {})
        self.assertIs(True, base.is_valid())

    def test_an_id_without_its_row(self):
        base = Database(read_schema("table a\ntable t a:no_action"))
        base.insert("t", 1, {})
        self.assertEqual([("t", 1, "id", "a")], base.faults())
        base.insert("a", 2, {})
        self.assertEqual([("t", 1, "id", "a")], base.faults())
        base.insert("a", 1, {})
        self.assertEqual([], base.faults())

    def test_a_default_without_its_row(self):
        base = Database(read_schema("table a\ntable t\ncolumn x default=3 a:restrict"))
        self.assertEqual([("t", None, "x", "a")], base.faults())
        base.insert("a", 4, {})
        self.assertIs(False, base.is_valid())
        base.insert("a", 3, {})
        self.assertEqual([], base.faults())
        base.insert("t", 1, {"x": 5})
        self.assertEqual([("t", 1, "x", "a")], base.faults())

    def test_a_default_of_zero_is_one(self):
        base = Database(read_schema("table a\ntable t\ncolumn x default=0 a:restrict"))
        self.assertEqual([("t", None, "x", "a")], base.faults())
        base.insert("t", 1, {})
        self.assertEqual([("t", None, "x", "a"), ("t", 1, "x", "a")], base.faults())
        base.insert("a", 0, {})
        self.assertIs(True, base.is_valid())

    def test_a_default_without_references_needs_no_row(self):
        base = Database(kinds())
        base.insert("t", 1, {"a": 77})
        self.assertIs(True, base.is_valid())

    def test_references_of_a_table_to_itself(self):
        base = Database(read_schema("table t\ncolumn x null default=1 t:cascade"))
        self.assertEqual([("t", None, "x", "t")], base.faults())
        base.insert("t", 1, {})
        self.assertEqual([], base.faults())
        base.insert("t", 2, {"x": 3})
        self.assertEqual([("t", 2, "x", "t")], base.faults())

    def test_order(self):
        schema = read_schema("\n".join([
            "table z b:cascade a:cascade", "column y null default=5 b:restrict a:restrict",
            "column x null default=6 z:cascade b:cascade a:cascade", "table a", "column d default=7 z:no_action",
            "table b a:no_action",
        ]))
        base = Database(schema)
        base.insert("b", -1, {})
        base.insert("z", 4, {"x": None})
        base.insert("z", -2, {})
        base.insert("a", 9, {"d": 4})
        base.insert("a", 5, {})
        self.assertEqual([
            ("z", None, "y", "b"), ("z", None, "x", "z"), ("z", None, "x", "b"), ("z", None, "x", "a"),
            ("a", None, "d", "z"),
            ("z", -2, "id", "b"), ("z", -2, "id", "a"), ("z", -2, "y", "b"),
            ("z", -2, "x", "z"), ("z", -2, "x", "b"), ("z", -2, "x", "a"),
            ("z", 4, "id", "b"), ("z", 4, "id", "a"), ("z", 4, "y", "b"),
            ("a", 5, "d", "z"), ("b", -1, "id", "a"),
        ], base.faults())

    def test_against_the_definition(self):
        chance = random.Random(11)
        schema = read_schema(MANY)
        every = [(link, schema.action(link)) for link in schema.references()]
        for _ in range(200):
            base = Database(schema)
            for _ in range(chance.randint(0, 12)):
                base.attempt(lambda same: None)
                table, row = chance.choice("abc"), chance.choice([-12, 0, 1, 2])
                values = {name: chance.choice([-12, 0, 1, 2]) for name in schema.columns(table)}
                if (table, row) not in base:
                    base.insert(table, row, values)
            rows = {table: dict((row, values) for name, row, values in base.rows() if name == table) for table in "abc"}
            expected = [("a", None, "x", name) for name in "abc" if -12 not in rows[name]]
            expected += [("a", None, "y", "c")] if 0 not in rows["c"] else []
            for (table, column, target), _ in every:
                for row, values in rows[table].items():
                    value = row if column == "id" else values[column]
                    if value is not None and value not in rows[target]:
                        expected.append((table, row, column, target))
            self.assertEqual(sorted(expected, key=repr), sorted(base.faults(), key=repr))
            self.assertEqual(expected == [], base.is_valid())


if __name__ == "__main__":
    unittest.main()

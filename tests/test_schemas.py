"""Schemas [4, 5, 9, 17]: what may be, the methods, and the order of the errors."""

import itertools
import random
import unittest

from keyactions.errors import BadAction, BadTable, Full, NoReference, NoTable
from keyactions.schemas import Column, Schema, Table, read_schema
from samples import ACTIONS, MANY, Case, odd_numbers, odd_values, shop

NO_TABLES = odd_values() + odd_numbers() + ["users", "use", "id", "User"]
NO_REFERENCES = odd_values() + odd_numbers() + [
    "user", ("cart", "owner"), ("cart", "owner", "cart"), ("user", "owner", "user"), ("cart", "id", "user"),
    ["cart", "owner", "user"], ("cart", "owner", "user", "cascade"), ("cart", "owner", ["user"]),
    ("cart", "owner", None), ("cart", {}, "user"), (("cart",), "owner", "user"), ("user", "cascade"), (1, 2, 3),
    ("Cart", "owner", "user"), ("owner", "cart", "user"), ("cart", "owner", "user "),
]


def linking(count):
    """Tables a, b, .. of which the columns have so many references in all."""
    names = "abcde"
    wanted = [(table, column, target) for table in names for column in "xy" for target in names[:4]][:count]
    tables = []
    for table in names:
        columns = [Column(column, *[(target, "cascade") for a, b, target in wanted if (a, b) == (table, column)])
                   for column in "xy"]
        tables.append(Table(table, *columns))
    return tables


def small_schemas():
    """Many schemas of three tables that differ in the references of `id` and of a column."""
    names = ["a", "b", "c"]
    pairs = [(one, other) for one in names for other in names if one != other]
    for chosen in itertools.product([False, True], repeat=len(pairs)):
        links = {name: tuple((other, "cascade") for keep, (one, other) in zip(chosen, pairs) if keep and one == name)
                 for name in names}
        yield Schema(Table("a", ids=links["a"]), Table("b", ids=links["b"]), Table(
            "c", Column("x", ("a", "restrict"), ("b", "cascade"), ("c", "no_action")), ids=links["c"]))


class Making(Case):
    def test_tables_and_references(self):
        schema = Schema(Table("b", Column("x", ("a", "cascade"))), Table("a", ids=(("b", "restrict"),)))
        self.assertEqual(["b", "a"], schema.tables())
        self.assertEqual([("a", "id", "b"), ("b", "x", "a")], schema.references())

    def test_actions_of_the_class(self):
        self.assertEqual(ACTIONS, Schema.ACTIONS)
        self.assertIs(tuple, type(Schema.ACTIONS))
        self.assertEqual(ACTIONS, shop().ACTIONS)

    def test_a_name_that_was_there_before(self):
        self.fails(BadTable, {"name": "a"}, Schema, Table("a"), Table("a"))
        self.fails(BadTable, {"name": "b"}, Schema, Table("a"), Table("b"), Table("c"), Table("b"), Table("a"))

    def test_a_target_that_is_no_table(self):
        self.fails(NoTable, {"table": "b"}, Schema, Table("a", Column("x", ("b", "cascade"))))
        self.fails(NoTable, {"table": "b"}, Schema, Table("a", ids=(("b", "cascade"),)))
        self.fails(NoTable, {"table": "id"}, Schema, Table("a", ids=(("id", "cascade"),)))

    def test_the_first_target_that_is_no_table(self):
        first = Table("a", Column("x", ("a", "cascade"), ("q", "cascade")), Column("y", ("r", "cascade")))
        ids = Table("b", Column("x", ("s", "cascade")), ids=(("a", "cascade"), ("u", "cascade"), ("t", "cascade")))
        self.fails(NoTable, {"table": "q"}, Schema, first, ids)
        self.fails(NoTable, {"table": "u"}, Schema, ids, first)
        self.fails(NoTable, {"table": "u"}, Schema, Table("a"), ids)
        both = Table("a", Column("x", ("a", "cascade")), Column("y", ("r", "cascade"), ("s", "cascade")))
        self.fails(NoTable, {"table": "r"}, Schema, both, Table("b"))

    def test_a_table_may_be_called_id(self):
        schema = Schema(Table("id"), Table("a", Column("x", ("id", "cascade")), ids=(("id", "restrict"),)))
        self.assertEqual([("a", "id", "id"), ("a", "x", "id")], schema.references())
        self.assertEqual(["id", "a"], schema.closure(["a"]))

    def test_one_to_five_tables(self):
        names = "abcdef"
        for count in range(1, 6):
            self.assertEqual(count, len(Schema(*[Table(name) for name in names[:count]])))
        self.fails(Full, {"most": 5}, Schema)
        self.fails(Full, {"most": 5}, Schema, *[Table(name) for name in names])

    def test_at_most_ten_references(self):
        self.assertEqual(10, len(Schema(*linking(10)).references()))
        self.fails(Full, {"most": 10}, Schema, *linking(11))
        ids = tuple((name, "cascade") for name in "bcde")
        tables = [Table("a", ids=ids)] + [Table(name, Column("x", ("a", "cascade"))) for name in "bcde"]
        self.assertEqual(8, len(Schema(*tables).references()))
        tables[1] = Table("b", Column("x", *[(name, "cascade") for name in "abcd"]))
        self.fails(Full, {"most": 10}, Schema, *tables)

    def test_order_of_the_errors(self):
        lost = Table("a", Column("x", ("q", "cascade")))
        self.fails(BadTable, {"name": "a"}, Schema, lost, Table("a"), *[Table(name) for name in "bcdef"])
        self.fails(NoTable, {"table": "q"}, Schema, lost, *[Table(name) for name in "bcdef"])
        self.fails(NoTable, {"table": "q"}, Schema, *linking(11)[:4], Table("e", Column("x", ("q", "cascade"))))
        self.fails(Full, {"most": 5}, Schema, *linking(11), Table("f"))

    def test_a_schema_has_tables_of_its_own(self):
        table = Table("a", Column("x", ("a", "cascade")))
        schema = Schema(table)
        table.name, table.links = "b", (("c", "cascade"),)
        table.parts[0].name, table.parts[0].nullable = "y", True
        self.assertEqual(Schema(Table("a", Column("x", ("a", "cascade")))), schema)
        self.assertEqual("table a\ncolumn x a:cascade", str(schema))
        self.assertEqual(["x"], schema.columns("a"))


class Asking(Case):
    def test_tables_and_columns(self):
        schema = read_schema(MANY)
        self.assertEqual(["a", "b", "c"], schema.tables())
        self.assertEqual([["x", "y", "z"], [], ["x", "q"]], [schema.columns(name) for name in "abc"])
        self.assertEqual(["x", "y", "z"], schema.columns(table="a"))

    def test_columns_of_no_table(self):
        for value in NO_TABLES:
            with self.subTest(value=value):
                self.fails(NoTable, {"table": value}, shop().columns, value)

    def test_lists_are_new(self):
        schema = shop()
        for make in (schema.tables, lambda: schema.columns("cart"), schema.references, schema.implied,
                     lambda: schema.closure(["cart"]), lambda: schema.references(table="cart")):
            before = make()
            self.assertIs(list, type(before))
            make().append("more")
            make().clear()
            self.assertEqual(before, make())
        self.assertEqual(shop(), schema)

    def test_references_by_every_combination(self):
        schema = read_schema(MANY)
        every = [
            ("a", "id", "b", "restrict"), ("a", "id", "c", "no_action"), ("a", "x", "a", "set_null"),
            ("a", "x", "b", "set_default"), ("a", "x", "c", "cascade"), ("a", "y", "c", "set_default"),
            ("c", "id", "b", "cascade"), ("c", "q", "a", "set_default"), ("c", "x", "a", "restrict"),
        ]
        self.assertEqual([link[:3] for link in every], schema.references())
        for table in (None, "a", "b", "c", "d", "", "x"):
            for target in (None, "a", "b", "c", "d", "id"):
                for action in (None, *ACTIONS, "delete", "", "a"):
                    expected = [link[:3] for link in every if table in (None, link[0])
                                and target in (None, link[2]) and action in (None, link[3])]
                    found = schema.references(table=table, target=target, action=action)
                    self.assertEqual(expected, found)
        self.assertEqual([("c", "id", "b"), ("c", "q", "a"), ("c", "x", "a")], schema.references(table="c"))
        self.assertEqual([("a", "id", "b"), ("a", "x", "b"), ("c", "id", "b")], schema.references(target="b"))
        self.assertEqual([("a", "x", "b"), ("a", "y", "c"), ("c", "q", "a")], schema.references(action="set_default"))
        self.assertEqual([], schema.references(action="set default"))

    def test_references_are_tuples_in_ascending_order(self):
        schema = Schema(Table("b", Column("y", ("b", "cascade"), ("a", "cascade")), Column("x", ("b", "cascade"))),
                        Table("a", Column("z", ("b", "cascade")), ids=(("b", "cascade"),)))
        self.assertEqual([("a", "id", "b"), ("a", "z", "b"), ("b", "x", "b"), ("b", "y", "a"), ("b", "y", "b")],
                         schema.references())

    def test_references_are_asked_by_name_only(self):
        with self.assertRaises(TypeError):
            shop().references("cart")

    def test_action(self):
        schema = read_schema(MANY)
        self.assertEqual("restrict", schema.action(("a", "id", "b")))
        self.assertEqual("set_default", schema.action(("a", "x", "b")))
        self.assertEqual("cascade", schema.action(reference=("c", "id", "b")))
        self.assertEqual("no_action", schema.action(("a", "id", "c")))

    def test_action_of_no_reference(self):
        for value in NO_REFERENCES:
            with self.subTest(value=value):
                self.fails(NoReference, {"reference": value}, shop().action, value)

    def test_len_and_in(self):
        schema = shop()
        self.assertEqual(2, len(schema))
        self.assertEqual(3, len(read_schema(MANY)))
        self.assertIs(True, "user" in schema)
        self.assertIs(True, "cart" in schema)
        for value in NO_TABLES:
            with self.subTest(value=value):
                self.assertIs(False, value in schema)

    def test_repr(self):
        self.assertEqual("Schema(2 tables, 2 references)", repr(shop()))
        self.assertEqual("Schema(1 tables, 0 references)", repr(Schema(Table("a"))))
        self.assertEqual("Schema(1 tables, 1 references)", repr(Schema(Table("a", Column("x", ("a", "cascade"))))))
        self.assertEqual("Schema(5 tables, 10 references)", repr(Schema(*linking(10))))

    def test_equality(self):
        def made(first="a", second=("b", Column("x")), ids=()):
            return Schema(Table(first), Table(*second, ids=ids))
        self.assertTrue(made() == made())
        self.assertFalse(made() != made())
        others = [
            made(first="c"), Schema(Table("a")), Schema(Table("b", Column("x")), Table("a")),
            made(second=("b", Column("x", default=1))), made(second=("b",)), made(ids=(("a", "cascade"),)),
            Schema(Table("a"), Table("b", Column("x")), Table("c")),
        ]
        for other in others + odd_values() + odd_numbers() + [made().tables(), str(made()), Table("a")]:
            with self.subTest(other=other):
                self.assertFalse(made() == other)
                self.assertFalse(other == made())
                self.assertTrue(made() != other)

    def test_equality_sees_the_actions_and_the_order_of_the_references(self):
        one = read_schema("table a\ncolumn x a:cascade b:restrict\ntable b")
        self.assertNotEqual(one, read_schema("table a\ncolumn x b:restrict a:cascade\ntable b"))
        self.assertNotEqual(one, read_schema("table a\ncolumn x a:cascade b:no_action\ntable b"))
        self.assertEqual(one, read_schema("table a\ncolumn x a:cascade b:restrict\ntable b"))


class Changing(Case):
    def test_changed(self):
        schema = shop()
        other = schema.changed(("cart", "payer", "user"), "set_null")
        self.assertEqual("table user\ntable cart\ncolumn owner user:cascade\ncolumn payer null user:set_null", str(other))
        self.assertEqual(shop(), schema)
        self.assertEqual(schema, schema.changed(reference=("cart", "payer", "user"), action="restrict"))
        self.assertIsNot(schema, schema.changed(("cart", "payer", "user"), "restrict"))

    def test_changed_keeps_all_else(self):
        schema = read_schema(MANY)
        for reference in schema.references():
            for action in ("cascade", "restrict", "no_action"):
                other = schema.changed(reference, action)
                self.assertEqual(action, other.action(reference))
                self.assertEqual(schema, other.changed(reference, schema.action(reference)))
                for link in schema.references():
                    if link != reference:
                        self.assertEqual(schema.action(link), other.action(link))

    def test_changed_of_no_reference(self):
        for value in NO_REFERENCES:
            with self.subTest(value=value):
                self.fails(NoReference, {"reference": value}, shop().changed, value, "cascade")
                self.fails(NoReference, {"reference": value}, shop().changed, value, "x")

    def test_changed_to_what_the_column_may_not_have(self):
        schema = read_schema("table a b:cascade\ncolumn x a:cascade\ncolumn y null a:cascade\n"
                             "column z default=1 a:cascade\ntable b")
        may = {"id": ("cascade", "restrict", "no_action"), "x": ("cascade", "restrict", "no_action"), "y": ACTIONS,
               "z": ("cascade", "set_default", "restrict", "no_action")}
        for column, actions in may.items():
            reference = ("a", column, "b" if column == "id" else "a")
            for action in [*ACTIONS, *odd_values(), *odd_numbers(), "Cascade", "set null"]:
                with self.subTest(column=column, action=action):
                    if isinstance(action, str) and action in actions:
                        self.assertEqual(action, schema.changed(reference, action).action(reference))
                    else:
                        self.fails(BadAction, {"value": action}, schema.changed, reference, action)

    def test_relaxed(self):
        schema = read_schema(MANY)
        other = schema.relaxed([("a", "x", "b"), ("a", "id", "b"), ("a", "x", "b")])
        expected = MANY.replace("b:restrict c:no_action", "b:no_action c:no_action")
        self.assertEqual(expected.replace("b:set_default", "b:no_action"), str(other))
        self.assertEqual(MANY, str(schema))
        self.assertEqual(schema, schema.relaxed([]))
        self.assertIsNot(schema, schema.relaxed([]))
        every = schema.relaxed(references=schema.references())
        self.assertEqual(schema.references(), every.references(action="no_action"))

    def test_relaxed_with_no_reference(self):
        good = ("cart", "payer", "user")
        for value in NO_REFERENCES:
            with self.subTest(value=value):
                self.fails(NoReference, {"reference": value}, shop().relaxed, [value])
                self.fails(NoReference, {"reference": value}, shop().relaxed, [good, value, ("q", "q", "q"), []])

    def test_arguments_are_not_changed(self):
        references, tables = [("cart", "payer", "user")] * 2, ["user", "cart", "user"]
        shop().relaxed(references)
        shop().closure(tables)
        self.assertEqual([("cart", "payer", "user")] * 2, references)
        self.assertEqual(["user", "cart", "user"], tables)


class Closures(Case):
    def test_closure_follows_id_alone(self):
        schema = read_schema("table a b:restrict\ntable b c:no_action\ntable c\ntable d a:cascade\ncolumn x e:cascade\n"
                             "table e\ncolumn y a:cascade")
        self.assertEqual([["a", "b", "c"], ["b", "c"], ["c"], ["a", "b", "c", "d"], ["e"]],
                         [schema.closure([name]) for name in "abcde"])
        self.assertEqual([], schema.closure([]))
        self.assertEqual(["b", "c", "e"], schema.closure(["e", "b", "e", "c"]))
        self.assertEqual(["c"], schema.closure(tables=["c", "c"]))

    def test_closure_is_in_the_order_of_the_schema(self):
        schema = read_schema("table z\ntable a z:cascade\ntable m a:cascade")
        self.assertEqual(["z", "a", "m"], schema.closure(["m"]))
        self.assertEqual(["z", "a", "m"], schema.closure(["m", "z", "a"]))

    def test_closure_in_a_circle(self):
        schema = read_schema("table a b:cascade\ntable b c:cascade\ntable c a:cascade\ntable d")
        for name in "abc":
            self.assertEqual(["a", "b", "c"], schema.closure([name]))
        self.assertEqual(["a", "b", "c", "d"], schema.closure(["d", "c"]))

    def test_closure_of_no_table(self):
        for value in NO_TABLES:
            with self.subTest(value=value):
                self.fails(NoTable, {"table": value}, shop().closure, [value])
                self.fails(NoTable, {"table": value}, shop().closure, ["user", value, "q", []])

    def test_closure_is_the_least_closed_set(self):
        for schema in small_schemas():
            names = schema.tables()
            targets = {name: [link[2] for link in schema.references(table=name) if link[1] == "id"] for name in names}
            for count in range(4):
                for some in itertools.combinations(names, count):
                    closed = [kept for size in range(4) for kept in itertools.combinations(names, size)
                              if set(some) <= set(kept) and all(set(targets[name]) <= set(kept) for name in kept)]
                    self.assertEqual(list(closed[0]), schema.closure(list(some)))


class Implied(Case):
    def test_other_columns(self):
        schema = read_schema("table a b:restrict\ntable b\ntable c\ncolumn x b:no_action a:cascade\ncolumn y b:cascade")
        self.assertEqual([("c", "x", "b")], schema.implied())

    def test_id(self):
        schema = read_schema("table a b:cascade c:cascade\ntable b c:cascade\ntable c")
        self.assertEqual([("a", "id", "c")], schema.implied())

    def test_a_reference_does_not_imply_itself(self):
        self.assertEqual([], shop().implied())
        self.assertEqual([], read_schema("table a b:cascade\ntable b a:cascade").implied())
        self.assertEqual([], read_schema("table a\ncolumn x a:cascade").implied())

    def test_in_circles_each_can_be_implied_by_the_other(self):
        schema = read_schema("table a b:cascade\ntable b a:cascade\ntable c\ncolumn x a:cascade b:cascade")
        self.assertEqual([("c", "x", "a"), ("c", "x", "b")], schema.implied())

    def test_the_reference_itself_is_left_out_also_further_on(self):
        # From the other target b one comes back to a, and from there to c only by the reference itself.
        schema = read_schema("table a b:cascade c:cascade\ntable b a:cascade\ntable c")
        self.assertEqual([], schema.implied())

    def test_a_reference_of_another_column_is_not_left_out(self):
        schema = read_schema("table a b:cascade\ncolumn x a:cascade b:cascade\ntable b")
        self.assertEqual([("a", "x", "b")], schema.implied())

    def test_against_all_small_databases(self):
        # Sets of tables stand for the tables that have a row 1; row 2 of c has x = 1.
        for schema in small_schemas():
            found = []
            for reference in schema.references():
                if not any(alone(schema, reference, rows) for count in range(4)
                           for rows in itertools.combinations("abc", count)):
                    found.append(reference)
            self.assertEqual(found, schema.implied(), str(schema))


def alone(schema, reference, rows):
    """Whether rows 1 in these tables, with a row 2 everywhere that has x = 1, have faults for just this reference."""
    table, column, target = reference
    faults = [link for link in schema.references() if link[1] == "id" and link[0] in rows and link[2] not in rows]
    if column == "x":
        faults += [link for link in schema.references() if link[1] == "x" and link[2] not in rows]
    return faults == [reference]


class Defined(unittest.TestCase):
    def test_methods_stand_in_the_classes_themselves(self):
        for name in ("tables", "columns", "references", "action", "changed", "relaxed", "closure", "implied", "ACTIONS",
                     "__init__", "__eq__", "__len__", "__contains__", "__str__", "__repr__"):
            self.assertIn(name, vars(Schema))
        for part in (Column, Table):
            self.assertIn("__init__", vars(part))
            self.assertIn("__eq__", vars(part))
        for thing in (Column, Table, Schema, read_schema):
            self.assertEqual("keyactions.schemas", thing.__module__)


class Many(Case):
    def test_random_schemas_keep_what_they_were_given(self):
        chance = random.Random(4)
        for _ in range(200):
            tables = random_tables(chance)
            schema = Schema(*tables)
            self.assertEqual([table.name for table in tables], schema.tables())
            expected = []
            for table in tables:
                self.assertEqual([column.name for column in table.parts], schema.columns(table.name))
                for name, links in [("id", table.links)] + [(column.name, column.links) for column in table.parts]:
                    expected += [((table.name, name, target), action) for target, action in links]
            self.assertEqual(sorted(link for link, _ in expected), schema.references())
            for link, action in expected:
                self.assertEqual(action, schema.action(link))
            self.assertEqual(schema, read_schema(str(schema)))
            self.assertEqual(schema, Schema(*tables))


def random_tables(chance):
    """The tables of some schema."""
    names = chance.sample(["a", "b", "c", "d", "id", "zz"], chance.randint(1, 5))
    left = 10
    tables = []
    for name in names:
        columns = []
        for column in chance.sample(["x", "y", "z", "row", "null"], chance.randint(0, 3)):
            nullable, default = chance.random() < 0.5, chance.choice([None, 0, -7, 10 ** 39])
            targets = chance.sample(names, min(left, 4, chance.randint(0, len(names))))
            left -= len(targets)
            actions = [action for action in ACTIONS if (action != "set_null" or nullable)
                       and (action != "set_default" or nullable or default is not None)]
            links = [(target, chance.choice(actions)) for target in targets]
            columns.append(Column(column, *links, nullable=nullable, default=default))
        others = [other for other in names if other != name]
        targets = chance.sample(others, min(left, 4, chance.randint(0, len(others))))
        left -= len(targets)
        ids = tuple((target, chance.choice(["cascade", "restrict", "no_action"])) for target in targets)
        tables.append(Table(name, *columns, ids=ids))
    return tables


if __name__ == "__main__":
    unittest.main()

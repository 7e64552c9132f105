"""What can go [9, 10, 11]: open tables, and the tables that can go with some tables."""

import itertools
import random

from keyactions.databases import read_database
from keyactions.errors import NoTable
from keyactions.schemas import read_schema
from keyactions.worlds import can_go, open_tables
from readings import Reading, dense_schema, sets_of
from samples import Case, odd_numbers, odd_values, shop
from test_schemas import small_schemas

# The example of point 11.
EARLIER = "table a\ntable b a:no_action\ncolumn z t:cascade\ntable t\ncolumn x a:cascade b:no_action"


def opened(text):
    """The open tables for each start."""
    schema = read_schema(text)
    return [open_tables(schema, start) for start in schema.tables()]


class OpenTables(Case):
    def test_the_start_is_open(self):
        self.assertEqual([["a"], ["b"]], opened("table a\ntable b"))
        self.assertEqual([["a"]], opened("table a\ncolumn x a:restrict"))

    def test_a_column_that_cascades(self):
        self.assertEqual([["a", "b"], ["b"]], opened("table a\ntable b\ncolumn x a:cascade"))

    def test_no_other_action_opens(self):
        for action in ("set_null", "set_default", "restrict", "no_action"):
            self.assertEqual([["a"], ["b"]], opened(f"table a\ntable b\ncolumn x null default=1 a:{action}"))

    def test_id_opens_nothing(self):
        self.assertEqual([["a"], ["b"]], opened("table a\ntable b a:cascade"))

    def test_a_chain_of_columns(self):
        text = "table c\ncolumn x b:cascade\ntable b\ncolumn x a:cascade\ntable a\ntable d\ncolumn x null c:set_null"
        self.assertEqual([["c"], ["c", "b"], ["c", "b", "a"], ["d"]], opened(text))

    def test_by_way_of_id(self):
        text = "table a\ntable b a:cascade\ntable c b:cascade\ntable d\ncolumn x c:cascade"
        self.assertEqual([["a", "d"], ["b"], ["c"], ["d"]], opened(text.replace("x c:cascade", "x c:restrict a:cascade")))
        self.assertEqual([["a", "d"], ["b", "d"], ["c", "d"], ["d"]], opened(text))

    def test_a_table_that_is_closed_because_a_row_would_have_to_stay(self):
        # Row v of `b` is there because x names it; it names row v of `a`, so this one cannot go.
        text = "table a\ntable b a:{}\ntable c\ncolumn x a:cascade b:no_action"
        self.assertEqual(["a"], opened(text.format("no_action"))[0])
        self.assertEqual(["a"], opened(text.format("restrict"))[0])
        self.assertEqual(["a", "c"], opened(text.format("cascade"))[0])

    def test_a_ring_of_ids(self):
        ring = "table a b:{}\ntable b a:{}\ntable c\ncolumn x a:cascade"
        self.assertEqual(["a"], opened(ring.format("no_action", "no_action"))[0])
        self.assertEqual(["a", "c"], opened(ring.format("no_action", "cascade"))[0])
        self.assertEqual(["a"], opened(ring.format("cascade", "restrict"))[0])
        self.assertEqual(["b"], opened(ring.format("no_action", "cascade"))[1])
        self.assertEqual(["b", "c"], opened(ring.format("cascade", "no_action"))[1])

    def test_a_ring_of_columns_does_not_open_itself(self):
        text = "table a\ntable b\ncolumn x c:cascade\ntable c\ncolumn x b:cascade"
        self.assertEqual([["a"], ["b", "c"], ["b", "c"]], opened(text))
        self.assertEqual([["a"], ["b"]], opened("table a\ntable b\ncolumn x b:cascade"))

    def test_a_row_that_goes_only_because_of_another_one(self):
        self.assertEqual([["a", "b", "t"], ["b"], ["b", "t"]], opened(EARLIER))

    def test_that_row_is_needed_in_both_ways(self):
        # Without b.z nothing takes row v of `b`; with a table that only opens by `t` itself, likewise.
        self.assertEqual(["a"], opened(EARLIER.replace("\ncolumn z t:cascade", ""))[0])
        self.assertEqual(["a"], opened(EARLIER.replace("z t:cascade", "z t:set_null").replace("z ", "z null "))[0])
        self.assertEqual(["a"], opened(EARLIER.replace("x a:cascade", "x a:no_action"))[0])

    def test_the_example_in_a_database(self):
        base = read_database(read_schema(EARLIER), "row a 1\nrow a 9\nrow b 9 z=8\nrow a 7\nrow b 7 z=8\nrow t 8 x=7\n"
                                                   "row b 1 z=5\nrow t 5 x=1")
        self.assertTrue(base.is_valid())
        fired = base.delete("a", [1])
        self.assertEqual([("t", "x", "a", 1), ("b", "z", "t", 5)],
                         [event for event in fired if event in [("t", "x", "a", 1), ("b", "z", "t", 5)]])
        self.assertEqual("row a 7\nrow a 9\nrow b 7 z=8\nrow b 9 z=8\nrow t 8 x=7", str(base))

    def test_the_order_of_the_schema(self):
        for order in itertools.permutations(EARLIER.replace("\ncolumn", " column").split("\n")):
            text = "\n".join(order).replace(" column", "\ncolumn")
            schema = read_schema(text)
            self.assertEqual(schema.tables(), open_tables(schema, "a"))

    def test_the_start_may_be_any_value(self):
        for value in odd_values() + odd_numbers() + ["id", "users", "owner"]:
            with self.subTest(value=value):
                self.fails(NoTable, {"table": value}, open_tables, shop(), value)

    def test_a_new_list_each_time(self):
        schema = shop()
        open_tables(schema, "user").clear()
        self.assertEqual(["user", "cart"], open_tables(schema, "user"))

    def test_by_name(self):
        self.assertEqual(["cart"], open_tables(start="cart", schema=shop()))


class CanGo(Case):
    def test_no_tables(self):
        self.assertEqual([], can_go(shop(), "user", []))

    def test_closed_tables_cannot_go(self):
        self.assertEqual([], can_go(shop(), "cart", ["user"]))
        self.assertEqual(["cart"], can_go(shop(), "cart", ["cart", "user", "cart"]))
        self.assertEqual(["user", "cart"], can_go(shop(), "user", ["cart", "user", "user"]))

    def test_the_closure_must_be_settled(self):
        schema = read_schema("table a\ntable b a:no_action\ntable c a:cascade")
        self.assertEqual(["a"], can_go(schema, "a", ["a"]))
        self.assertEqual([], can_go(schema, "a", ["b"]))
        self.assertEqual(["a", "c"], can_go(schema, "a", ["c"]))
        self.assertEqual([], can_go(schema, "a", ["c", "b"]))
        self.assertEqual(["b"], can_go(schema, "b", ["b"]))
        self.assertEqual(["b"], can_go(schema, "b", ["b", "c"]))

    def test_a_long_way_through_ids(self):
        schema = read_schema("table e d:cascade\ntable d c:cascade\ntable c b:cascade\ntable b a:cascade\ntable a")
        self.assertEqual(["e", "d", "c", "b", "a"], can_go(schema, "a", ["e"]))
        self.assertEqual(["e", "d", "c"], can_go(schema, "c", ["e"]))
        self.assertEqual(["c"], can_go(schema, "c", ["c"]))
        self.assertEqual([], can_go(schema.changed(("d", "id", "c"), "restrict"), "a", ["e"]))
        self.assertEqual(["e", "d"], can_go(schema.changed(("d", "id", "c"), "restrict"), "d", ["e"]))

    def test_a_ring_hangs_in_the_air_without_a_ground(self):
        ring = read_schema("table a b:cascade\ntable b c:cascade\ntable c a:cascade\ntable d\ntable e d:cascade a:no_action")
        self.assertEqual(["a", "b", "c"], can_go(ring, "a", ["b"]))
        self.assertEqual([], can_go(ring, "d", ["b"]))
        self.assertEqual(["d"], can_go(ring, "d", ["d", "a"]))
        self.assertEqual(["d", "e"], can_go(ring, "d", ["e"]))
        self.assertEqual([], can_go(ring, "a", ["e"]))

    def test_settled_looks_at_the_closure_alone(self):
        # `b` names `a` by `id`, but need not be there where only `a` is asked for.
        schema = read_schema("table a\ntable b a:restrict")
        self.assertEqual([["a"], []], [can_go(schema, "a", ["a"]), can_go(schema, "a", ["a", "b"])])

    def test_errors(self):
        schema = shop()
        for value in odd_values() + odd_numbers() + ["id", "users", "owner"]:
            with self.subTest(value=value):
                self.fails(NoTable, {"table": value}, can_go, schema, value, ["x"])
                self.fails(NoTable, {"table": value}, can_go, schema, value, [])
                self.fails(NoTable, {"table": value}, can_go, schema, "user", [value])
                self.fails(NoTable, {"table": value}, can_go, schema, "user", ["user", "cart", value, "x", value])

    def test_the_list_stays(self):
        tables = ["user", "cart", "user"]
        can_go(shop(), "user", tables).clear()
        self.assertEqual(["user", "cart", "user"], tables)
        self.fails(NoTable, {"table": 3}, can_go, shop(), "user", [*tables, 3])

    def test_by_name(self):
        self.assertEqual(["cart"], can_go(tables=["cart"], start="cart", schema=shop()))


class AgainstTheReading(Case):
    def check(self, schema):
        for start in schema.tables():
            reading = Reading(schema, start)
            self.assertEqual(reading.in_order(reading.open()), open_tables(schema, start), (str(schema), start))
            for some in sets_of(tuple(schema.tables())):
                self.assertEqual(reading.in_order(reading.can_go(some)), can_go(schema, start, sorted(some, reverse=True)),
                                 (str(schema), start, some))

    def test_small_schemas(self):
        for schema in small_schemas():
            self.check(schema)

    def test_the_example_with_other_actions(self):
        schema = read_schema(EARLIER)
        choices = [("b", "id", "a"), ("b", "z", "t"), ("t", "x", "a"), ("t", "x", "b")]
        for actions in itertools.product(("cascade", "restrict", "no_action"), repeat=4):
            for link, action in zip(choices, actions):
                schema = schema.changed(link, action)
            self.check(schema)

    def test_random_schemas(self):
        chance = random.Random(12)
        for _ in range(500):
            self.check(dense_schema(chance))

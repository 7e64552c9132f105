"""Conflicts [12], and what points 3 and 15 say of them."""

import itertools
import random

from keyactions.conflicts import conflicts, is_order_free
from keyactions.databases import Database
from keyactions.errors import NoTable
from keyactions.runs import ends
from keyactions.schemas import Column, Schema, Table, read_schema
from readings import Reading, dense_schema, may_have
from samples import ACTIONS, MANY, Case, odd_numbers, odd_values, shop
from test_schemas import small_schemas

PAIRS = list(itertools.product(ACTIONS, repeat=2))
SHOP_CONFLICT = ("user", "row", ("cart", "owner", "user"), ("cart", "payer", "user"))


def traits():
    """All that a column may be."""
    return itertools.product([False, True], [None, 3])


def allowed(pair, nullable, default):
    return all(may_have(action, "x", nullable, default) for action in pair)


def effects(pair, default):
    """The two actions as point 12 counts them."""
    return ["set_null" if action == "set_default" and default is None else action for action in pair]


class Value(Case):
    """Two references of one column."""

    def schema(self, pair, nullable, default, ids=()):
        part = Column("x", ("a", pair[0]), ("b", pair[1]), nullable=nullable, default=default)
        tables = [Table("a"), Table("b", ids=(("a", "cascade"),)), Table("c", part, ids=ids)]
        return Schema(*tables, *([Table("d", ids=(("c", "no_action"),))] if ids else []))

    def test_all_pairs_of_actions(self):
        for pair in PAIRS:
            for nullable, default in traits():
                if not allowed(pair, nullable, default):
                    continue
                one, other = effects(pair, default)
                found = [("a", "value", ("c", "x", "a"), ("c", "x", "b"))]
                expected = found if one != other and "no_action" not in pair else []
                schema = self.schema(pair, nullable, default)
                self.assertEqual(expected, conflicts(schema), pair)
                self.assertEqual(expected, conflicts(schema, start="a"), pair)
                self.assertEqual([], conflicts(schema, start="b"), pair)
                self.assertEqual([], conflicts(schema, start="c"), pair)
                self.assertEqual(expected == [], is_order_free(schema), pair)

    def test_all_pairs_where_the_rows_of_the_table_cannot_go(self):
        for pair in PAIRS:
            for nullable, default in traits():
                if not allowed(pair, nullable, default):
                    continue
                one, other = effects(pair, default)
                clash = one != other and "no_action" not in pair and {one, other} != {"cascade", "restrict"}
                found = [("a", "value", ("c", "x", "a"), ("c", "x", "b"))]
                schema = self.schema(pair, nullable, default, ids=(("d", "no_action"),))
                self.assertEqual(found if clash else [], conflicts(schema), pair)

    def test_set_default_without_a_default(self):
        self.assertEqual([], conflicts(self.schema(("set_null", "set_default"), True, None)))
        self.assertEqual(1, len(conflicts(self.schema(("set_null", "set_default"), True, 0))))
        self.assertEqual(1, len(conflicts(self.schema(("set_default", "restrict"), True, None))))

    def test_both_targets_must_go(self):
        text = "table a\ntable b a:{}\ntable c\ncolumn x null b:set_null a:cascade"
        found = [("a", "value", ("c", "x", "a"), ("c", "x", "b"))]
        self.assertEqual(found, conflicts(read_schema(text.format("cascade"))))
        self.assertEqual([], conflicts(read_schema(text.format("no_action"))))
        self.assertEqual([], conflicts(read_schema("table a\ntable b\ntable c\ncolumn x null b:set_null a:cascade")))

    def test_more_than_two_references_of_a_column(self):
        schema = read_schema("table z\ntable y z:cascade\ntable w z:cascade\ntable v z:cascade\n"
                             "table c\ncolumn x null default=1 z:restrict y:cascade w:set_null v:set_default")
        links = [("c", "x", target) for target in "vwyz"]
        self.assertEqual([("z", "value", *pair) for pair in itertools.combinations(links, 2)], conflicts(schema))

    def test_id_is_no_such_column(self):
        schema = read_schema("table a\ntable b a:cascade\ntable c a:cascade b:restrict")
        self.assertEqual([("a", "row", ("c", "id", "a"), ("c", "id", "b"))], conflicts(schema))


class Row(Case):
    """References of two columns, or both of `id`."""

    def test_all_pairs_for_two_columns(self):
        for pair in PAIRS:
            for nullable, default in traits():
                if not allowed(pair, nullable, default):
                    continue
                parts = [Column("xy"[at], ("a", pair[at]), nullable=nullable, default=default) for at in range(2)]
                x, y = ("c", "x", "a"), ("c", "y", "a")
                expected = {("cascade", "restrict"): [("a", "row", x, y)], ("restrict", "cascade"): [("a", "row", y, x)]}
                schema = Schema(Table("c", *parts), Table("a"))
                self.assertEqual(expected.get(pair, []), conflicts(schema), pair)
                closed = Schema(Table("c", *parts, ids=(("d", "restrict"),)), Table("a"),
                                Table("d", ids=(("c", "no_action"),)))
                self.assertEqual([], conflicts(closed), pair)

    def test_all_pairs_for_id_and_a_column(self):
        for pair in PAIRS:
            for nullable, default in traits():
                if not allowed(pair, nullable, default) or not may_have(pair[0], "id", False, None):
                    continue
                part = Column("y", ("a", pair[1]), nullable=nullable, default=default)
                schema = Schema(Table("a"), Table("c", part, ids=(("a", pair[0]),)))
                own, y = ("c", "id", "a"), ("c", "y", "a")
                expected = {("cascade", "restrict"): [("a", "row", own, y)],
                            ("restrict", "cascade"): [("a", "row", y, own)]}
                self.assertEqual(expected.get(pair, []), conflicts(schema), pair)

    def test_all_pairs_for_id(self):
        for pair in itertools.product(("cascade", "restrict", "no_action"), repeat=2):
            schema = Schema(Table("a"), Table("b", ids=(("a", "cascade"),)),
                            Table("c", ids=(("a", pair[0]), ("b", pair[1]))))
            a, b = ("c", "id", "a"), ("c", "id", "b")
            expected = {("cascade", "restrict"): [("a", "row", a, b)], ("restrict", "cascade"): [("a", "row", b, a)]}
            self.assertEqual(expected.get(pair, []), conflicts(schema), pair)

    def test_a_reference_that_is_not_free_of_its_table(self):
        text = "table a\ntable b c:cascade\ncolumn w a:{}\ntable c b:restrict\ncolumn y a:cascade"
        self.assertEqual([], conflicts(read_schema(text.format("no_action"))))
        found = [("a", "row", ("c", "y", "a"), ("c", "id", "b"))]
        self.assertEqual(found, conflicts(read_schema(text.format("cascade"))))

    def test_id_that_cascades_and_is_not_free_of_its_table(self):
        text = "table a\ntable b c:cascade\ncolumn w a:{}\ntable c b:cascade\ncolumn y a:cascade\ncolumn z a:restrict"
        both = ("a", "row", ("c", "id", "b"), ("c", "z", "a"))
        column = ("a", "row", ("c", "y", "a"), ("c", "z", "a"))
        self.assertEqual([column], conflicts(read_schema(text.format("no_action"))))
        self.assertEqual([both, column], conflicts(read_schema(text.format("cascade"))))

    def test_the_table_may_be_the_start(self):
        schema = read_schema("table a\ncolumn x a:cascade\ncolumn y a:restrict")
        self.assertEqual([("a", "row", ("a", "x", "a"), ("a", "y", "a"))], conflicts(schema))
        ring = read_schema("table a b:restrict\ncolumn x a:cascade\ntable b a:cascade")
        self.assertEqual([], conflicts(ring, start="a"))
        self.assertEqual([("b", "row", ("b", "id", "a"), ("b", "y", "b"))],
                         conflicts(read_schema("table a b:no_action\ncolumn x b:cascade\ntable b a:cascade\n"
                                               "column y b:restrict"), start="b"))

    def test_different_targets(self):
        text = "table a\ntable b\ncolumn x a:{}\ntable c\ncolumn x a:cascade\ncolumn y b:restrict"
        self.assertEqual([("a", "row", ("c", "x", "a"), ("c", "y", "b"))], conflicts(read_schema(text.format("cascade"))))
        self.assertEqual([], conflicts(read_schema(text.format("restrict"))))


class Telling(Case):
    def test_for_all_starts_and_for_one(self):
        schema = read_schema("table b\ntable a b:cascade\ntable c\ncolumn x a:cascade\ncolumn y a:restrict b:restrict")
        inner = [("row", ("c", "x", "a"), ("c", "y", target)) for target in "ab"]
        self.assertEqual([("a", *inner[0]), ("b", *inner[0]), ("b", *inner[1])], conflicts(schema))
        self.assertEqual([("a", *inner[0])], conflicts(schema, start="a"))
        self.assertEqual([("b", *inner[0]), ("b", *inner[1])], conflicts(schema, start="b"))
        self.assertEqual([], conflicts(schema, start="c"))
        self.assertEqual(conflicts(schema), conflicts(schema, start=None))

    def test_ascending(self):
        chance = random.Random(13)
        most = 0
        for _ in range(200):
            found = conflicts(dense_schema(chance))
            self.assertEqual(sorted(set(found)), found)
            for start, way, one, other in found:
                self.assertIn(way, ("row", "value"))
                self.assertTrue(way == "row" or one < other)
            most = max(most, len(found))
        self.assertGreater(most, 5)

    def test_the_cascade_is_the_first_one_of_a_row(self):
        schema = read_schema("table a\ntable c\ncolumn y a:cascade\ncolumn x a:restrict")
        self.assertEqual([("a", "row", ("c", "y", "a"), ("c", "x", "a"))], conflicts(schema))

    def test_is_order_free(self):
        self.assertIs(False, is_order_free(shop()))
        self.assertIs(True, is_order_free(read_schema("table a")))
        self.assertIs(True, is_order_free(schema=shop().changed(("cart", "payer", "user"), "set_null")))

    def test_no_table(self):
        for value in odd_values() + odd_numbers() + ["id", "users", "owner"]:
            if value is not None:
                with self.subTest(value=value):
                    self.fails(NoTable, {"table": value}, conflicts, shop(), start=value)

    def test_the_start_is_passed_by_name_only(self):
        with self.assertRaises(TypeError):
            conflicts(shop(), "user")
        self.assertEqual([SHOP_CONFLICT], conflicts(start="user", schema=shop()))

    def test_a_new_list_each_time(self):
        schema = shop()
        conflicts(schema).clear()
        self.assertEqual([SHOP_CONFLICT], conflicts(schema))
        self.assertEqual(shop(), schema)


class NoAction(Case):
    """The first sentence of point 15."""

    def test_everywhere(self):
        chance = random.Random(14)
        for _ in range(60):
            schema = dense_schema(chance)
            self.assertEqual([], conflicts(schema.relaxed(schema.references())))
        schema = read_schema(MANY)
        self.assertEqual([], conflicts(schema.relaxed(schema.references())))

    def test_never_more_conflicts(self):
        chance = random.Random(15)
        fewer = 0
        for _ in range(150):
            schema = dense_schema(chance)
            found = set(conflicts(schema))
            for reference in schema.references():
                left = set(conflicts(schema.changed(reference, "no_action")))
                self.assertLessEqual(left, found, str(schema))
                fewer += left < found
        self.assertGreater(fewer, 100)


class AgainstTheReading(Case):
    def check(self, schema):
        expected = [found for start in schema.tables() for found in Reading(schema, start).conflicts()]
        self.assertEqual(sorted(expected), conflicts(schema), str(schema))
        for start in schema.tables():
            self.assertEqual([found for found in expected if found[0] == start], conflicts(schema, start=start))
        self.assertEqual(not expected, is_order_free(schema))
        return expected

    def test_random_schemas(self):
        chance = random.Random(16)
        ways = {}
        for _ in range(700):
            for _, way, one, other in self.check(dense_schema(chance)):
                kind = (way, one[1] == "id", other[1] == "id")
                ways[kind] = ways.get(kind, 0) + 1
        self.assertEqual(5, len(ways))
        self.assertGreater(min(ways.values()), 30)

    def test_small_schemas(self):
        for schema in small_schemas():
            self.check(schema)

    def test_pairs_in_rings(self):
        text = "table a b:{}\ntable b a:{}\ncolumn x null default=2 a:{} b:cascade\ntable c\ncolumn y b:cascade a:restrict"
        for ids in itertools.product(("cascade", "restrict", "no_action"), repeat=2):
            for action in ACTIONS:
                self.check(read_schema(text.format(*ids, action)))


def small_schema(chance):
    """Some schema with two tables and few references."""
    tables = []
    for name in "ab":
        nullable, default = chance.random() < 0.5, chance.choice([None, None, 1])
        actions = [action for action in ACTIONS if may_have(action, "x", nullable, default)]
        targets = chance.sample("ab", chance.randint(0, 2))
        part = Column("x", *[(target, chance.choice(actions)) for target in targets], nullable=nullable, default=default)
        ids = [(other, chance.choice(["cascade", "restrict", "no_action"])) for other in "ab" if other != name]
        tables.append(Table(name, *([part] if targets else []), ids=tuple(ids[:chance.randint(0, 1)])))
    return Schema(*tables)


def small_databases(schema):
    """All valid databases with rows 1 and 2, and values 1, 2 and None."""
    tables = schema.layout.values()
    choices = []
    for table in tables:
        options = [{}] if not table.parts else [{"x": value} for value in (1, 2, None)[:3 if table.parts[0].nullable else 2]]
        choices += [[(table.name, row, values) for values in [None, *options]] for row in (1, 2)]
    for rows in itertools.product(*choices):
        base = Database(schema)
        for table, row, values in rows:
            if values is not None:
                base.insert(table, row, values)
        if base.is_valid():
            yield base


class AgainstRuns(Case):
    def test_without_conflicts_there_is_one_end(self):
        chance = random.Random(17)
        tried = done = deletes = 0
        while tried < 45:
            schema = small_schema(chance)
            if len(schema.references()) < 2 or not is_order_free(schema):
                continue
            tried += 1
            for base in small_databases(schema):
                for table in schema.tables():
                    for ids in ([1], [2], [1, 2]):
                        if set(ids) <= set(base.ids(table)):
                            found = ends(base, table, ids)
                            self.assertEqual(1, len(found), (str(schema), str(base), table, ids))
                            done += found != [None]
                            deletes += 1
        self.assertGreater(done, 500)
        self.assertGreater(deletes - done, 500)

    def test_a_start_without_conflicts(self):
        # Two ends show only where there are conflicts for the very start of the delete.
        chance = random.Random(18)
        several = 0
        for _ in range(40):
            schema = small_schema(chance)
            free = {table: conflicts(schema, start=table) == [] for table in schema.tables()}
            if all(free.values()):
                continue
            for base in small_databases(schema):
                for table in schema.tables():
                    for row in base.ids(table):
                        if len(ends(base, table, [row])) > 1:
                            self.assertFalse(free[table], (str(schema), str(base), table, row))
                            several += 1
        self.assertGreater(several, 50)

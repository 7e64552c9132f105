"""Witnesses [3, 13]: that each schema with conflicts has one, and that it shows two ends."""

import itertools
import random

from keyactions.conflicts import conflicts
from keyactions.databases import Database
from keyactions.errors import NothingToUndo
from keyactions.runs import ends, replay
from keyactions.schemas import Column, Schema, Table, read_schema
from keyactions.witnesses import parts, witness
from readings import dense_schema
from samples import ACTIONS, Case, same, shop
from test_deletes import Model
from test_schemas import small_schemas
from test_worlds import EARLIER


def end_by_model(base, table, ids, events):
    """The end of a run by the model; the events must be a run."""
    defaults = {(part.name, column.name): column.default for part in base.schema.layout.values() for column in part.parts}
    model = Model(base)
    model.go([entry for entry in model.rows if entry[0] == table and entry[1]["id"] in ids])
    for at, event in enumerate(events):
        assert event in model.pending
        if not model.fire(event, defaults):
            assert at == len(events) - 1
            return None
    assert not model.pending
    left = Database(base.schema)
    for entry in model.entries():
        left.insert(*entry)
    return left if left.is_valid() else None


class Cases(Case):
    def check(self, schema):
        """The schema has a witness, or is order-free and has none; tells whether it has one."""
        found = witness(schema)
        if conflicts(schema) == []:
            self.assertIsNone(found, str(schema))
            return False
        self.assertIs(tuple, found.__class__)
        base, table, ids, one, other = found
        self.assertIs(Database, base.__class__)
        self.assertEqual(schema, base.schema)
        self.assertEqual([], base.faults())
        self.assertLessEqual(len(base), 400)
        self.assertIn(table, schema.tables())
        self.assertTrue(same(sorted(set(ids)), ids))
        self.assertLessEqual(set(ids), set(base.ids(table)))
        for run in (one, other):
            self.assertIs(list, run.__class__)
            self.assertTrue(all(event.__class__ is tuple for event in run))
        before = base.copy()
        told = [end_by_model(base, table, ids, run) for run in (one, other)]
        self.assertNotEqual(*told, str(schema))
        self.assertEqual(told, [replay(base, table, ids, run) for run in (one, other)])
        self.assertIs(True, parts(schema, found))
        self.assertEqual(before, base)
        self.fails(NothingToUndo, {}, base.undo)
        return True


class Finding(Cases):
    def test_the_shop(self):
        self.assertTrue(self.check(shop()))
        base, table, ids, one, other = witness(shop())
        self.assertEqual("user", table)
        found = ends(base, table, ids)
        self.assertIn(replay(base, table, ids, one), found)
        self.assertIn(replay(base, table, ids, other), found)

    def test_order_free_schemas_have_none(self):
        self.assertIsNone(witness(read_schema("table a")))
        self.assertIsNone(witness(shop().changed(("cart", "payer", "user"), "no_action")))
        self.assertIsNone(witness(schema=read_schema(EARLIER)))

    def test_random_schemas(self):
        chance = random.Random(19)
        ways = {}
        while sum(ways.values()) < 400:
            schema = dense_schema(chance)
            if self.check(schema):
                start, way, one, other = conflicts(schema)[0]
                kind = (way, one[1] == "id", other[1] == "id", start == one[0])
                ways[kind] = ways.get(kind, 0) + 1
        self.assertGreaterEqual(len(ways), 8, ways)

    def test_small_schemas(self):
        self.assertTrue(any([self.check(schema) for schema in small_schemas()]))

    def test_all_pairs_of_actions_of_a_column(self):
        found = 0
        for one, other in itertools.product(ACTIONS, repeat=2):
            for ids in ((), (("d", "no_action"),)):
                part = Column("x", ("a", one), ("b", other), nullable=True, default=3)
                tables = [Table("a"), Table("b", ids=(("a", "cascade"),)), Table("c", part, ids=ids)]
                found += self.check(Schema(*tables, Table("d", ids=(("c", "restrict"),))))
        self.assertEqual(12 + 10, found)

    def test_all_pairs_of_actions_of_two_columns(self):
        for one, other in itertools.product(ACTIONS, repeat=2):
            for names in ("xy", "yx"):
                columns = [Column(name, ("a", action), nullable=True, default=3) for name, action in zip(names, (one, other))]
                self.assertEqual({one, other} == {"cascade", "restrict"}, self.check(Schema(Table("a", *columns))))

    def test_all_pairs_of_actions_of_id(self):
        for one, other in itertools.product(("cascade", "restrict", "no_action"), repeat=2):
            pair = {one, other} == {"cascade", "restrict"}
            tables = [Table("c", ids=(("a", one), ("b", other))), Table("a"), Table("b", ids=(("a", "cascade"),))]
            self.assertEqual(pair, self.check(Schema(*tables)))
            column = Column("y", ("a", other))
            self.assertEqual(pair, self.check(Schema(Table("c", column, ids=(("a", one),)), Table("a"))))

    def test_rows_that_go_only_because_of_another_one(self):
        for action in ("restrict", "set_null", "set_default"):
            for target in ("b", "t"):
                text = f"\ntable c\ncolumn x null default=2 b:cascade\ncolumn y null default=1 {target}:{action}"
                self.assertEqual(action == "restrict", self.check(read_schema(EARLIER + text)))
        self.assertTrue(self.check(read_schema(EARLIER + "\ntable c b:restrict\ncolumn x t:cascade")))
        self.assertTrue(self.check(read_schema(EARLIER + "\ntable c b:cascade t:restrict\ncolumn x t:cascade")))
        self.assertTrue(self.check(read_schema(EARLIER + "\ntable c\ncolumn x null b:set_null a:cascade")))
        self.assertTrue(self.check(read_schema(EARLIER.replace("z t:cascade", "z t:cascade\ncolumn w a:restrict"))))

    def test_rings_of_ids(self):
        ring = "table a b:cascade\ntable b c:no_action\ntable c a:cascade\ncolumn w e:cascade\ntable e\n"
        self.assertFalse(self.check(read_schema(ring.strip())))
        self.assertTrue(self.check(read_schema(ring + "table d\ncolumn x b:cascade\ncolumn y c:restrict")))
        self.assertFalse(self.check(read_schema(ring.replace("b c:no_action", "b c:restrict").strip())))
        self.assertTrue(self.check(read_schema(ring.replace("w e:cascade", "w e:cascade\ncolumn x a:restrict").strip())))

    def test_the_largest_schemas(self):
        # 5 tables, 10 references, 4 of one column and 4 of one `id`.
        links = [("b", "cascade"), ("c", "set_null"), ("d", "set_default"), ("e", "restrict")]
        for count in range(24):
            order = list(itertools.permutations(links))[count]
            ids = tuple((name, "cascade") for name in "bcde")
            tables = [Table("a", Column("x", *order, nullable=True, default=1), ids=ids), Table("b"),
                      Table("c", ids=(("b", "cascade"),)), Table("d", ids=(("c", "cascade"),)), Table("e")]
            schema = Schema(*tables)
            self.assertEqual(10, len(schema.references()))
            self.assertTrue(self.check(schema))
        chance = random.Random(20)
        big = 0
        while big < 25:
            schema = dense_schema(chance)
            if len(schema) == 5 and len(schema.references()) == 10:
                big += self.check(schema)

    def test_a_long_way_to_the_conflict(self):
        text = ("table e\ncolumn x d:cascade\ncolumn y d:restrict\ntable d\ncolumn x c:cascade\ntable c\ncolumn x b:cascade\n"
                "table b\ncolumn x a:cascade\ntable a")
        self.assertTrue(self.check(read_schema(text)))
        self.assertEqual("a", witness(read_schema(text))[1])
        self.assertTrue(self.check(read_schema(text.replace("table d\ncolumn x c:cascade", "table d c:cascade"))))
        text = text.replace("table b\ncolumn x a:cascade", "table b a:no_action\ncolumn x a:cascade")
        self.assertTrue(self.check(read_schema(text)))

    def test_defaults_of_all_kinds(self):
        numbers = iter([*range(0, 12), -1, 10 ** 40 - 1, -(10 ** 40 - 1)])
        tables = []
        for name in "abcde":
            columns = [Column("x", ("a", "cascade"), default=next(numbers)), Column("y", ("a", "restrict"), default=next(numbers)),
                       Column("z", default=next(numbers), nullable=True)]
            tables.append(Table(name, *columns))
        self.assertTrue(self.check(Schema(*tables)))
        columns = [Column(name, default=default) for name, default in zip("xyz", (1, 2, 3))]
        linked = [Column("x", ("a", "set_default"), ("b", "cascade"), default=2), Column("y", default=1), Column("z", default=2)]
        self.assertTrue(self.check(Schema(Table("a", *columns), Table("b", *columns, ids=(("a", "cascade"),)),
                                          Table("c", *linked))))

    def test_the_same_at_each_call_and_new(self):
        chance = random.Random(21)
        schemas = [shop()] + [schema for schema in [dense_schema(chance) for _ in range(40)] if conflicts(schema)]
        for schema in schemas:
            one, other = witness(schema), witness(read_schema(str(schema)))
            self.assertTrue(same(one[1:], other[1:]))
            self.assertEqual(one[0], other[0])
            self.assertEqual(str(one[0]), str(other[0]))
            text = str(one[0])
            for made in (one, other):
                for value in made[2:]:
                    value.clear()
            again = witness(schema)
            self.assertTrue(parts(schema, again))
            self.assertEqual(text, str(again[0]))

    def test_the_database_is_its_own(self):
        schema = shop()
        one, other = witness(schema), witness(schema)
        text = str(other[0])
        one[0].insert("user", 77, {})
        one[0].delete("cart", one[0].ids("cart"))
        self.assertEqual(text, str(other[0]))
        self.assertEqual(text, str(witness(schema)[0]))
        self.assertEqual(shop(), schema)
        self.assertTrue(parts(schema, other))

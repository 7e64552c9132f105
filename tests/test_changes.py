"""Changes [15]: the fewest references, and the actions that a reference may have."""

import itertools
import random

from accounts import fewest_by_search, rebuilt, with_no_action
from keyactions.changes import allowed, fewest_changes
from keyactions.conflicts import conflicts, is_order_free
from keyactions.errors import NoReference
from keyactions.schemas import Column, Schema, Table, read_schema
from readings import dense_schema, may_have
from samples import ACTIONS, MANY, Case, odd_numbers, odd_values, shop
from test_schemas import small_schemas

OWNER, PAYER = ("cart", "owner", "user"), ("cart", "payer", "user")


def pairs(count):
    """A schema with some pairs of references in conflict, each of which needs a change of its own."""
    return Schema(*[
        Table(name, Column("x", ("a", "cascade")), Column("y", ("a", "restrict"))) for name in "abcde"[:count]])


def action_of_column(schema, link):
    """Whether a column is nullable, and its default."""
    for part in schema.layout[link[0]].parts:
        if part.name == link[1]:
            return part.nullable, part.default
    return False, None


class Fewest(Case):
    def check(self, schema):
        """The list is the one that a search finds; tells its length."""
        found = fewest_changes(schema)
        self.assertEqual(fewest_by_search(schema), found, str(schema))
        self.assertIs(list, found.__class__)
        self.assertTrue(all(link.__class__ is tuple for link in found))
        self.assertTrue(is_order_free(schema.relaxed(found)))
        return len(found)

    def test_the_shop(self):
        self.assertEqual([OWNER], fewest_changes(shop()))
        self.assertEqual([OWNER], fewest_changes(schema=shop()))

    def test_order_free_schemas_need_none(self):
        for schema in (read_schema("table a"), shop().changed(PAYER, "set_null"), shop().relaxed(shop().references())):
            self.assertEqual([], fewest_changes(schema))
        chance = random.Random(40)
        found = [schema for schema in [dense_schema(chance) for _ in range(200)] if is_order_free(schema)]
        self.assertGreater(len(found), 50)
        for schema in found:
            self.assertEqual([], fewest_changes(schema))

    def test_the_least_of_several_lists(self):
        text = "table {1}\ntable {0}\ncolumn {2} {1}:{4}\ncolumn {3} {1}:{5}"
        for names in itertools.product(("ab", "ba"), ("xy", "yx"), (("cascade", "restrict"), ("restrict", "cascade"))):
            table, column, pair = names
            schema = read_schema(text.format(*table, *column, *pair))
            self.assertEqual([(table[0], "x", table[1])], fewest_changes(schema))

    def test_a_reference_of_no_conflict_may_be_the_one(self):
        # The rows of `b` go by one reference alone; without it no conflict is left.
        text = ("table a\ntable b\ncolumn x a:cascade\ntable c\ncolumn x b:cascade\ncolumn y b:restrict\n"
                "table d\ncolumn x b:cascade\ncolumn y b:restrict")
        self.assertEqual(2, self.check(read_schema(text)))
        schema = read_schema(text + "\ntable z")
        self.assertEqual(2, self.check(schema))
        only = [link for link in schema.references() if link[0] in "bd"]
        self.assertEqual(["a", "b"], sorted({found[0] for found in conflicts(schema.relaxed(only[1:]))}))

    def test_one_change_for_many_conflicts(self):
        schema = read_schema("table a\ntable b\ncolumn x a:cascade\ncolumn y null a:restrict\ncolumn z null default=3 a:restrict")
        self.assertEqual(2, len(conflicts(schema)))
        self.assertEqual([("b", "x", "a")], fewest_changes(schema))
        schema = read_schema("table z\ntable y z:cascade\ntable w z:cascade\ntable v z:cascade\n"
                             "table c\ncolumn x null default=1 z:restrict y:cascade w:set_null v:set_default")
        self.assertEqual(6, len(conflicts(schema)))
        # All values of x have a row in `v` then that nothing takes, and that names the one in `z`: this one has to stay.
        self.assertEqual([("v", "id", "z")], fewest_changes(schema))
        self.assertEqual(1, self.check(schema))

    def test_many_changes(self):
        for count in range(1, 6):
            schema = pairs(count)
            self.assertEqual([(name, "x", "a") for name in "abcde"[:count]], fewest_changes(schema))
            self.assertEqual(count, self.check(schema))

    def test_all_actions_of_two_columns(self):
        for one, other, third in itertools.product(ACTIONS, repeat=3):
            columns = [Column(name, ("a", action), nullable=True, default=3)
                       for name, action in zip("xyz", (one, other, third))]
            self.check(Schema(Table("c", *columns), Table("a")))

    def test_small_schemas(self):
        for schema in small_schemas():
            self.check(schema)

    def test_random_schemas(self):
        chance, counts = random.Random(41), {}
        while sum(counts.values()) < 90 or len(counts) < 3:
            schema = dense_schema(chance)
            if not is_order_free(schema):
                count = self.check(schema)
                counts[count] = counts.get(count, 0) + 1

    def test_the_fewest_are_never_without_an_action(self):
        chance = random.Random(42)
        for _ in range(200):
            schema = dense_schema(chance)
            for link in fewest_changes(schema):
                self.assertNotEqual("no_action", schema.action(link))

    def test_no_fewer_changes_to_whatever_actions_do(self):
        chance, tried = random.Random(43), 0
        while tried < 40:
            schema = dense_schema(chance)
            least = len(fewest_changes(schema))
            if least == 0 or len(schema.references()) > 6:
                continue
            tried += 1
            for some in itertools.combinations(schema.references(), least - 1):
                for actions in itertools.product(ACTIONS, repeat=least - 1):
                    changes = dict(zip(some, actions))
                    if all(may_have(changes[link], link[1], *action_of_column(schema, link)) for link in some):
                        self.assertFalse(is_order_free(rebuilt(schema, changes)), (str(schema), changes))

    def test_a_new_list_each_time(self):
        schema = shop()
        fewest_changes(schema).clear()
        fewest_changes(schema).append("more")
        self.assertEqual([OWNER], fewest_changes(schema))
        self.assertEqual(shop(), schema)
        free = shop().changed(PAYER, "set_null")
        fewest_changes(free).append("more")
        self.assertEqual([], fewest_changes(free))
        full = pairs(1).relaxed([("a", "y", "a")])
        fewest_changes(full).append("more")
        self.assertEqual([], fewest_changes(full))


class Allowed(Case):
    def check(self, schema, link):
        """The actions are those with which a schema that is put together anew has no conflicts."""
        fitting = [action for action in ACTIONS if may_have(action, link[1], *action_of_column(schema, link))]
        expected = [action for action in fitting if is_order_free(rebuilt(schema, {link: action}))]
        found = allowed(schema, link)
        self.assertEqual(expected, found, (str(schema), link))
        self.assertEqual(is_order_free(schema), schema.action(link) in found)
        self.assertEqual(is_order_free(with_no_action(schema, [link])), "no_action" in found)
        return found

    def test_the_shop(self):
        self.assertEqual(["cascade", "set_null", "set_default", "no_action"], allowed(shop(), PAYER))
        self.assertEqual(["restrict", "no_action"], allowed(reference=OWNER, schema=shop()))

    def test_its_own_action_if_the_schema_is_order_free(self):
        free = shop().changed(PAYER, "set_null")
        self.assertIn("set_null", allowed(free, PAYER))
        self.assertIn("cascade", allowed(free, OWNER))
        self.assertNotIn("restrict", allowed(shop(), PAYER))

    def test_only_what_the_column_may_have(self):
        for nullable, default in itertools.product((False, True), (None, 3)):
            schema = Schema(Table("a"), Table("b", Column("x", ("a", "no_action"), nullable=nullable, default=default)))
            found = self.check(schema, ("b", "x", "a"))
            self.assertEqual([action for action in ACTIONS if may_have(action, "x", nullable, default)], found)
        schema = Schema(Table("a"), Table("b", Column("x", nullable=True, default=1), ids=(("a", "restrict"),)))
        self.assertEqual(["cascade", "restrict", "no_action"], allowed(schema, ("b", "id", "a")))

    def test_none_at_all(self):
        # Two pairs in conflict: one change does not help, whatever it is.
        for link in pairs(2).references():
            self.assertEqual([], allowed(pairs(2), link))
        link = ("z", "x", "z")
        schema = Schema(*[pairs(1).layout["a"], Table("z", Column("x", ("z", "cascade")))])
        self.assertEqual([], allowed(schema, link))

    def test_set_default_without_a_default(self):
        text = "table a\ntable b a:cascade\ntable c\ncolumn x null{} a:{} b:cascade"
        for default, action in itertools.product(("", " default=2"), ACTIONS):
            schema = read_schema(text.format(default, action))
            self.assertEqual(["cascade", "no_action"], self.check(schema, ("c", "x", "a")))
        found = allowed(read_schema(text.format("", "set_default").replace("b:cascade", "b:set_null")), ("c", "x", "a"))
        self.assertEqual(["set_null", "set_default", "no_action"], found)
        found = allowed(read_schema(text.format(" default=2", "cascade").replace("b:cascade", "b:set_null")), ("c", "x", "a"))
        self.assertEqual(["set_null", "no_action"], found)

    def test_random_schemas(self):
        chance, sizes = random.Random(44), {}
        for _ in range(75):
            schema = dense_schema(chance)
            for link in schema.references():
                count = len(self.check(schema, link))
                sizes[count] = sizes.get(count, 0) + 1
        self.assertEqual(6, len(sizes), sizes)

    def test_one_change_is_enough_if_one_is_the_fewest(self):
        chance, tried = random.Random(45), 0
        while tried < 50:
            schema = dense_schema(chance)
            if len(schema.references()) == 0 or is_order_free(schema):
                continue
            tried += 1
            helps = [link for link in schema.references() if "no_action" in allowed(schema, link)]
            found = fewest_changes(schema)
            self.assertEqual(found if len(found) == 1 else [], helps[:1])
            if len(found) > 1:
                self.assertTrue(all(allowed(schema, link) == [] for link in schema.references()))

    def test_no_reference(self):
        wrong = [("cart", "owner", "cart"), ("cart", "id", "user"), ("user", "owner", "cart"), ("cart", "owner"), "cart",
                 ("cart", "owner", "user", "cascade"), ["cart", "owner", "user"], [OWNER], (OWNER,), {OWNER: True}, "", ()]
        for value in wrong + odd_values() + odd_numbers():
            with self.subTest(value=value):
                self.fails(NoReference, {"reference": value}, allowed, shop(), value)
                self.fails(NoReference, {"reference": value}, allowed, read_schema(MANY), value)

    def test_a_new_list_each_time(self):
        schema = shop()
        allowed(schema, PAYER).clear()
        self.assertEqual(["cascade", "set_null", "set_default", "no_action"], allowed(schema, PAYER))
        self.assertEqual(shop(), schema)
        self.assertEqual(ACTIONS, Schema.ACTIONS)

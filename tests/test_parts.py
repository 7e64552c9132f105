"""What a witness is [13]: `parts` accepts every correct one and nothing else."""

import random

from keyactions.conflicts import conflicts
from keyactions.databases import Database, read_database
from keyactions.errors import NothingToUndo
from keyactions.schemas import Column, Table, read_schema
from keyactions.witnesses import parts, witness
from readings import dense_schema
from samples import MANY, SHOP, Case, deep, odd_numbers, odd_values, shop, stocked

OWNER, PAYER = ("cart", "owner", "user", 1), ("cart", "payer", "user", 1)


def hand_made():
    """A witness for `shop`."""
    return (stocked(), "user", [1], [OWNER, PAYER], [PAYER])


def spoilt(found, at, value):
    """A witness with another value in one place."""
    return (*found[:at], value, *found[at + 1:])


def nested(value):
    """Values in which a value stands somewhere."""
    return [[value], (value,), {"a": value}, {1: [value]}, [value, value], ((value,), value), [[value]]]


class Accepted(Case):
    def yes(self, schema, value):
        self.assertIs(True, parts(schema, value))

    def test_by_hand(self):
        self.yes(shop(), hand_made())
        base, table, ids, one, other = hand_made()
        self.yes(shop(), (base, table, ids, other, one))
        self.yes(value=hand_made(), schema=shop())

    def test_of_the_document(self):
        base = read_database(shop(), "row user 1\nrow user 2\nrow cart 7 owner=1 payer=2")
        run = base.copy().delete("user", [1, 2])
        self.yes(shop(), (base, "user", [1, 2], [("cart", "payer", "user", 2)], run))

    def test_another_database_than_the_one_that_is_returned(self):
        base = stocked()
        base.insert("user", -7, {})
        base.insert("cart", -1, {"owner": -7, "payer": -7})
        done = [("cart", "owner", "user", -7), ("cart", "payer", "user", -7)]
        self.yes(shop(), (base, "user", [-7], done, done[1:]))

    def test_two_databases(self):
        schema = read_schema("table a\ntable b a:cascade\ntable c\ncolumn x null default=2 a:set_null b:set_default")
        base = read_database(schema, "row a 1\nrow b 1\nrow a 2\nrow b 2\nrow c 5 x=1")
        first, a, b = ("b", "id", "a", 1), ("c", "x", "a", 1), ("c", "x", "b", 1)
        self.yes(schema, (base, "a", [1], [first, a, b], [first, b, a]))
        self.yes(schema, (base, "a", [1], [a, first, b], [first, b, a]))
        self.assertIs(False, parts(schema, (base, "a", [1], [a, first, b], [first, a, b])))

    def test_a_database_with_something_to_undo(self):
        found = hand_made()
        found[0].insert("user", 5, {})
        self.yes(shop(), found)
        found[0].undo()
        self.yes(shop(), found)

    def test_a_refusal_by_a_fault(self):
        schema = read_schema("table a\ntable b a:cascade\ntable c d:no_action\ncolumn x null a:cascade b:set_null\n"
                             "table d c:no_action")
        base = read_database(schema, "row a 1\nrow b 1\nrow c 5 x=1\nrow d 5")
        self.assertEqual([("a", "value", ("c", "x", "a"), ("c", "x", "b"))], conflicts(schema))
        first, take, none = ("b", "id", "a", 1), ("c", "x", "a", 1), ("c", "x", "b", 1)
        gone = ("d", "id", "c", 5)
        self.yes(schema, (base, "a", [1], [take, first, none, gone], [first, none, take]))
        self.yes(schema, (base, "a", [1], [first, none, take], [take, gone, first, none]))

    def test_random_ones(self):
        chance = random.Random(22)
        seen = 0
        while seen < 120:
            schema = dense_schema(chance)
            found = witness(schema)
            if found is not None:
                seen += 1
                base, table, ids, one, other = found
                self.yes(schema, found)
                self.yes(schema, (base.copy(), table, list(ids), other, one))
                self.yes(schema, (read_database(schema, str(base)), table, ids, one, other))


class Refused(Case):
    def no(self, value, schema=None):
        self.assertIs(False, parts(shop() if schema is None else schema, value))

    def test_values_of_every_kind(self):
        for value in odd_values() + odd_numbers() + [deep(12), [deep(11)] * 90, "a" * 20000]:
            self.no(value)
            for within in nested(value):
                self.no(within)
            self.no((value,) * 5)

    def test_any_part_of_any_other_kind(self):
        found = hand_made()
        values = odd_values() + odd_numbers() + list(found) + [value for part in found for value in nested(part)]
        for at in range(5):
            for value in values:
                if value != found[at] and not (at > 2 and value == found[7 - at]):
                    self.no(spoilt(found, at, value))

    def test_more_parts_or_fewer(self):
        found = hand_made()
        for count in range(5):
            self.no(found[:count])
            self.no(found[count + 1:])
        self.no((*found, []))
        self.no((*found, None))
        self.no(found + found)

    def test_lists_and_tuples(self):
        found = hand_made()
        self.no(list(found))
        for at in (2, 3, 4):
            self.no(spoilt(found, at, tuple(found[at])))
            self.no(spoilt(found, at, {value: True for value in found[at]}))
        for at in (3, 4):
            self.no(spoilt(found, at, [list(event) for event in found[at]]))
            self.no(spoilt(found, at, [*found[at][:-1], list(found[at][-1])]))
        self.no(dict(enumerate(found)))

    def test_other_databases(self):
        found = hand_made()
        other = read_schema(SHOP.replace("user:restrict", "user:no_action"))
        self.no(spoilt(found, 0, read_database(other, str(stocked()))))
        self.no(found, schema=other)
        self.no(spoilt(found, 0, Database(shop())))
        self.no(spoilt(found, 0, str(stocked())))
        self.no(spoilt(found, 0, shop()))
        self.no(spoilt(found, 0, stocked().rows()))
        self.no(found, schema=read_schema(MANY))
        self.no(found, schema=read_schema(SHOP.replace("payer null", "payer null default=1")))
        self.no(found, schema=read_schema("\n".join([*SHOP.split("\n")[1:], "table user"])))
        self.no(found, schema=read_schema(SHOP + "\ntable more"))

    def test_a_database_that_is_not_valid(self):
        found = hand_made()
        found[0].insert("cart", 77, {"owner": 9})
        self.no(found)
        found[0].undo()
        self.assertIs(True, parts(shop(), found))

    def test_a_default_that_is_at_fault(self):
        schema = read_schema(SHOP + "\ntable more\ncolumn x default=4 user:no_action")
        base = read_database(schema, str(stocked()))
        self.no((base, "user", [1], [OWNER, PAYER, ("more", "x", "user", 1)], [PAYER]), schema)
        base.insert("user", 4, {})
        self.assertIs(True, parts(schema, (base, "user", [1], [OWNER, PAYER, ("more", "x", "user", 1)], [PAYER])))

    def test_tables(self):
        found = hand_made()
        for value in ("cart", "users", "id", "", "owner", ["user"], ("user",), None, 1):
            self.no(spoilt(found, 1, value))

    def test_ids(self):
        base, table = stocked(), "user"
        one, other = [OWNER, PAYER], [PAYER]
        for ids in ([], [2], [1, 1], [True], [1, True], [1, 3], [3, 1], [0, 1], [1, None], ["1"], [[1]], [None], (1,), {1: 1},
                    1, "1", [1, 10 ** 50], [-1, 1], [(1,)], [1, []], [1.0]):
            self.no((base, table, ids, one, other))
        both = [("cart", "owner", "user", 1), ("cart", "owner", "user", 2), PAYER, ("cart", "payer", "user", 2)]
        self.assertIs(True, parts(shop(), (base, table, [1, 2], both, [PAYER])))
        for ids in ([2, 1], [1, 2, 2], [1, 1, 2], [1, 2, 1], [1, 2, 3], [True, 2]):
            self.no((base, table, ids, both, [PAYER]))

    def test_true_is_no_id(self):
        found = hand_made()
        self.no(spoilt(found, 3, [(*OWNER[:3], True), PAYER]))
        self.no(spoilt(found, 4, [(*PAYER[:3], True)]))

    def test_runs_that_are_none(self):
        found = hand_made()
        two = ("cart", "owner", "user", 2)
        for run in ([], [OWNER], [OWNER, OWNER], [OWNER, PAYER, PAYER], [OWNER, PAYER, OWNER], [two], [two, PAYER],
                    [OWNER, two, PAYER], [PAYER, OWNER], [PAYER, PAYER], [OWNER, PAYER, None], [PAYER, None], [None],
                    [OWNER, (*PAYER, 1)], [OWNER, PAYER[:3]], [OWNER, ("cart", "payer", "user", "1")], [[OWNER, PAYER]]):
            self.no(spoilt(found, 3, run))
            self.no(spoilt(found, 4, run))
        for value in odd_values() + odd_numbers():
            for run in ([value], [OWNER, value], [OWNER, PAYER, value], [PAYER, value], [value, PAYER]):
                self.no(spoilt(found, 3, run))
                self.no(spoilt(found, 4, run))

    def test_equal_ends(self):
        found = hand_made()
        self.no(spoilt(found, 4, [OWNER, PAYER]))
        self.no(spoilt(found, 3, [PAYER]))
        base = read_database(shop(), "row user 1\nrow user 2\nrow cart 7 owner=1 payer=2")
        two = ("cart", "payer", "user", 2)
        refused = ([two], [("cart", "owner", "user", 2), two])
        self.no((base, "user", [2], *refused))
        self.no((base, "user", [], [], []))

    def test_order_free_schemas_have_none(self):
        schema = shop().changed(("cart", "payer", "user"), "set_null")
        base = read_database(schema, str(stocked()))
        for one in ([OWNER, PAYER], [PAYER, OWNER], [PAYER], []):
            for other in ([OWNER, PAYER], [PAYER, OWNER], [PAYER], []):
                self.no((base, "user", [1], one, other), schema)

    def test_objects_of_the_package(self):
        found = hand_made()
        for value in (Column("x"), Table("a"), shop(), stocked(), stocked().trial(), read_schema(MANY)):
            for at in range(1, 5):
                self.no(spoilt(found, at, value))
                self.no(spoilt(found, at, [value]))
            self.no(value)
            self.no((value, *found[1:]) if value != stocked() else [value, *found[1:]])

    def test_nothing_changes(self):
        found = hand_made()
        for value in (found, spoilt(found, 4, [PAYER, OWNER]), spoilt(found, 2, [2, 1]), spoilt(found, 3, [None])):
            told = [list(part) if isinstance(part, list) else part for part in value[1:]]
            parts(shop(), value)
            self.assertEqual(told, list(value[1:]))
            self.assertEqual(stocked(), value[0])
        self.fails(NothingToUndo, {}, found[0].copy().undo)
        schema = shop()
        parts(schema, found)
        self.assertEqual(shop(), schema)

    def test_spoilt_ones_of_random_schemas(self):
        chance = random.Random(23)
        seen = 0
        while seen < 60:
            schema = dense_schema(chance)
            found = witness(schema)
            if found is None:
                continue
            seen += 1
            base, table, ids, one, other = found
            for at, run in ((3, one), (4, other)):
                self.no(spoilt(found, at, run[:-1]), schema)
                self.no(spoilt(found, at, run[::-1] + run), schema)
                self.no(spoilt(found, at, run + run[-1:]), schema)
                self.no(spoilt(found, at, found[7 - at]), schema)
            self.no(spoilt(found, 2, []), schema)
            self.no(spoilt(found, 2, ids + ids[-1:]), schema)
            self.no(spoilt(found, 0, Database(schema)), schema)

"""Reasons [16], and the one end of the deletes of order-free schemas [7, 8]."""

import copy
import itertools
import random

from accounts import Account, end_by, free_delete, full_delete
from keyactions.conflicts import conflicts
from keyactions.console import Console
from keyactions.databases import Database, read_database
from keyactions.errors import NoRow, NotFree, NothingToUndo, NotValid, NoTable, Refused
from keyactions.reasons import end_of, explains, reasons
from keyactions.runs import ends
from keyactions.schemas import Column, Table, read_schema
from samples import MANY, Case, deep, odd_numbers, odd_values, same, shop, stocked

PAYER = ("cart", "payer", "user")
DELETED = ("deleted",)
FAULTY = "row user 1\nrow cart 7 owner=5\nrow cart 6 owner=1 payer=3"


def free():
    """The order-free schema of the document's examples."""
    return shop().changed(PAYER, "set_null")


def goods():
    """A database of it in which rows go and values differ."""
    return read_database(free(), str(stocked()))


GOODS = {("user", 1): DELETED, ("cart", 7): ("owner", "user", 1), ("cart", 9): ("owner", "user", 1)}


def ring():
    """Rows that name one another in rings, and that can be taken in several ways."""
    schema = read_schema("table a\ncolumn x null a:cascade\ncolumn y null a:cascade\ntable b a:cascade\ncolumn z null a:cascade")
    return read_database(schema, "\n".join([
        "row a 1", "row a 2 x=1 y=3", "row a 3 x=2 y=1", "row a 4 x=3 y=5", "row a 5 x=4 y=4", "row a 6 x=6",
        "row b 2 z=4", "row b 5 z=5", "row b 6 z=1",
    ]))


RING = {
    ("a", 1): [DELETED], ("a", 2): [("x", "a", 1), ("y", "a", 3)], ("a", 3): [("x", "a", 2), ("y", "a", 1)],
    ("a", 4): [("x", "a", 3), ("y", "a", 5)], ("a", 5): [("x", "a", 4), ("y", "a", 4)],
    ("b", 2): [("id", "a", 2), ("z", "a", 4)], ("b", 5): [("id", "a", 5), ("z", "a", 5)], ("b", 6): [("z", "a", 1)],
}


def replaced(action, more="", text="row a 1\nrow a 2\nrow b 5 x=1\nrow b 6 x=2\nrow b 7 x=1"):
    """A database in which a column with one action names rows."""
    return read_database(read_schema(f"table a\ntable b\ncolumn x null default=2 a:{action}{more}"), text)


def nested(value):
    """Values in which a value stands somewhere."""
    return [[value], (value,), {("user", 1): value}, {1: value}, [[value]], {"a": (value, value)}]


class EndOf(Case):
    def test_the_document(self):
        base = read_database(free(), "row user 1\nrow user 2\nrow cart 7 owner=1 payer=2")
        self.assertEqual("row user 1\nrow cart 7 owner=1 payer=null", str(end_of(base, "user", [2])))

    def test_done(self):
        self.assertEqual("row user 2\nrow cart 8 owner=2 payer=null", str(end_of(goods(), "user", [1])))
        self.assertEqual("row user 1\nrow cart 7 owner=1 payer=null\nrow cart 9 owner=1 payer=1", str(end_of(goods(), "user", [2])))
        self.assertEqual("", str(end_of(goods(), "user", [2, 1])))
        self.assertEqual(goods(), end_of(goods(), "user", []))
        self.assertEqual("row user 1\nrow user 2", str(end_of(goods(), "cart", [9, 7, 8])))

    def test_refused_by_restrict(self):
        self.assertIsNone(end_of(replaced("restrict"), "a", [1]))
        self.assertIsNone(end_of(replaced("restrict"), "a", [2]))
        self.assertEqual(replaced("restrict", text="row a 2"), end_of(replaced("restrict", text="row a 1\nrow a 2"), "a", [1]))

    def test_refused_by_a_fault(self):
        self.assertIsNone(end_of(replaced("no_action"), "a", [1]))
        self.assertIsNone(end_of(replaced("cascade"), "a", [2]))
        self.assertIsNone(end_of(replaced("set_default"), "a", [1, 2]))
        self.assertEqual("row a 2\nrow b 6 x=2", str(end_of(replaced("cascade"), "a", [1])))

    def test_a_chain_of_all_rows(self):
        schema = read_schema("table a\ncolumn x null a:cascade\ncolumn y null a:cascade\ncolumn z null a:no_action\n"
                             "table b a:cascade")
        lines = ["row a 0"] + [f"row a {row} x={row - 1} y={row // 2} z={row}" for row in range(1, 200)]
        base = read_database(schema, "\n".join(lines + [f"row b {row}" for row in range(200)]))
        self.assertEqual(400, len(base))
        self.assertEqual(Database(schema), end_of(base, "a", [0]))
        found = reasons(base, "a", [0])
        self.assertEqual(400, len(found))
        self.assertTrue(explains(base, "a", [0], found))
        back = {**found, ("a", 100): ("y", "a", 50), ("a", 101): ("y", "a", 50)}
        self.assertTrue(explains(base, "a", [0], back))
        self.assertFalse(explains(base, "a", [0], {**back, ("a", 101): ("z", "a", 101)}))

    def test_ids_may_come_twice_in_any_order(self):
        ids = [2, 1, 2, 2]
        self.assertEqual(end_of(goods(), "user", [1, 2]), end_of(goods(), "user", ids))
        self.assertEqual([2, 1, 2, 2], ids)

    def test_by_name(self):
        self.assertEqual(goods(), end_of(ids=[], table="user", database=goods()))

    def test_the_end_is_a_database_of_its_own(self):
        base = goods()
        base.insert("user", 5, {})
        one, other = end_of(base, "user", [5]), end_of(base, "user", [5])
        self.fails(NothingToUndo, {}, one.undo)
        self.assertEqual(free(), one.schema)
        one.delete("user", [1])
        one.insert("user", 77, {})
        self.assertEqual(goods(), other)
        base.delete("user", [1, 5])
        self.assertEqual(goods(), other)
        base.undo()
        base.undo()
        self.assertEqual(goods(), base)
        self.fails(NothingToUndo, {}, base.undo)
        self.fails(NothingToUndo, {}, other.undo)
        nothing = end_of(base, "user", [])
        nothing.delete("cart", [7])
        self.assertEqual(goods(), base)

    def test_within_a_trial(self):
        base = goods()
        with base.trial() as same_base:
            same_base.delete("cart", [8])
            end = end_of(same_base, "user", [2])
            self.assertEqual([7, 9], end.ids("cart"))
            self.fails(NothingToUndo, {}, end.undo)
        self.assertEqual(goods(), base)

    def test_against_all_orders_of_small_deletes(self):
        chance, tried = random.Random(50), {True: 0, False: 0}
        while min(tried.values()) < 25:
            base, table, ids, defaults = full_delete(chance)
            if sum(len(base.schema.references(target=name)) for name in base.schema.tables()) > 3:
                continue
            end = end_of(base, table, ids)
            self.assertEqual([end], ends(base, table, ids))
            tried[end is None] += 1

    def check_runs(self, found, chance, count):
        base, table, ids, defaults = found
        before = base.copy()
        end = end_of(base, table, ids)
        self.assertEqual(before, base)
        for _ in range(count):
            self.assertEqual(end_by(base, table, ids, chance, defaults), end, (str(base.schema), str(base), table, ids))
        try:
            base.delete(table, ids, choose=chance.choice)
            self.assertEqual(base, end)
        except Refused:
            self.assertIsNone(end)
        return end is None

    def test_against_runs_in_many_orders(self):
        chance, tried = random.Random(51), {True: 0, False: 0}
        while min(tried.values()) < 120:
            tried[self.check_runs(full_delete(chance), chance, 8)] += 1

    def test_against_runs_in_databases_of_few_rows(self):
        chance, tried = random.Random(52), {True: 0, False: 0}
        while min(tried.values()) < 60:
            tried[self.check_runs(free_delete(chance), chance, 5)] += 1


class Errors(Case):
    """Those of all three functions."""

    CALLS = (end_of, reasons, lambda database, table, ids: explains(database, table, ids, {}))

    def test_order(self):
        faulty = read_database(shop(), FAULTY)
        fault = ("cart", 6, "payer", "user")
        for call in self.CALLS:
            self.fails(NoTable, {"table": "x"}, call, faulty, "x", [9, []])
            self.fails(NoRow, {"table": "user", "row": 9}, call, faulty, "user", [1, 9, 8])
            self.fails(NotValid, {"fault": fault}, call, faulty, "user", [1])
            self.fails(NotValid, {"fault": fault}, call, faulty, "user", [])
            self.fails(NotFree, {"conflict": conflicts(shop())[0]}, call, stocked(), "user", [1])
            self.fails(NotFree, {"conflict": conflicts(shop())[0]}, call, stocked(), "user", [])
            self.fails(NotFree, {"conflict": conflicts(shop())[0]}, call, stocked(), "user", [2])
            # Not even a start without conflicts will do.
            self.fails(NotFree, {"conflict": conflicts(shop())[0]}, call, stocked(), "cart", [7])
            self.fails(NoTable, {"table": "x"}, call, replaced("restrict"), "x", [])
            self.fails(NoRow, {"table": "a", "row": 3}, call, replaced("restrict"), "a", [1, 3])

    def test_refused(self):
        for call in self.CALLS[1:]:
            self.fails(Refused, {"cause": None}, call, replaced("restrict"), "a", [1])
            self.fails(Refused, {"cause": None}, call, replaced("no_action"), "a", [1])
            self.fails(Refused, {"cause": None}, call, replaced("cascade"), "a", [2])
            self.fails(NotValid, {"fault": ("b", 7, "x", "a")}, call,
                       replaced("restrict", text="row a 2\nrow a 1\nrow b 7 x=3\nrow b 8 x=1"), "a", [1])
        for value in odd_values() + [GOODS, {("a", 1): DELETED}]:
            self.fails(Refused, {"cause": None}, explains, replaced("restrict"), "a", [1], value)
            self.fails(NotFree, {"conflict": conflicts(shop())[0]}, explains, stocked(), "user", [2], value)

    def test_the_first_conflict(self):
        schema = read_schema("table b\ncolumn x b:cascade\ncolumn y b:restrict\ntable a\ncolumn x b:cascade\ncolumn y b:restrict")
        for call in self.CALLS:
            self.fails(NotFree, {"conflict": ("b", "row", ("a", "x", "b"), ("a", "y", "b"))}, call, Database(schema), "a", [])

    def test_no_table_and_no_row(self):
        for value in odd_values() + odd_numbers() + ["users", "id"]:
            for call in self.CALLS:
                self.fails(NoTable, {"table": value}, call, goods(), value, [])
        for value in odd_values() + [3, 0, -1, 10 ** 40, "1", ("user", 1), Console(shop())]:
            for call in self.CALLS:
                self.fails(NoRow, {"table": "user", "row": value}, call, goods(), "user", [value])
                self.fails(NoRow, {"table": "user", "row": value}, call, goods(), "user", [2, 1, value, 77])

    def test_nothing_changes(self):
        for base, table, ids in ((goods(), "user", [1, 3]), (stocked(), "user", [1]), (replaced("restrict"), "a", [1, 1]),
                                 (read_database(shop(), FAULTY), "user", [1]), (goods(), "x", [])):
            before, told = base.copy(), list(ids)
            for call in self.CALLS[1:]:
                with self.assertRaises((KeyError, LookupError, RuntimeError)):
                    call(base, table, ids)
            self.assertEqual((before, told), (base, ids))


class Given(Case):
    """What `reasons` returns."""

    def test_the_document(self):
        base = read_database(free(), "row user 1\nrow user 2\nrow cart 7 owner=1 payer=2")
        self.assertEqual({("user", 2): DELETED, ("cart", 7, "payer"): ("user", 2)}, reasons(base, "user", [2]))

    def test_rows_that_go_and_values_that_differ(self):
        self.assertEqual(GOODS, reasons(goods(), "user", [1]))
        self.assertEqual({("user", 2): DELETED, ("cart", 8): ("owner", "user", 2), ("cart", 7, "payer"): ("user", 2)},
                         reasons(goods(), "user", [2]))
        self.assertEqual({("cart", 8): DELETED}, reasons(ids=[8, 8], table="cart", database=goods()))
        self.assertEqual({}, reasons(goods(), "user", []))

    def test_of_a_row_that_goes_no_value_is_told(self):
        schema = read_schema("table a\ntable b\ncolumn x null a:set_null\ncolumn y a:cascade")
        base = read_database(schema, "row a 1\nrow b 5 x=1 y=1\nrow a 2\nrow b 6 x=1 y=2")
        self.assertEqual({("a", 1): DELETED, ("b", 5): ("y", "a", 1), ("b", 6, "x"): ("a", 1)}, reasons(base, "a", [1]))

    def test_a_default_and_none(self):
        expected = {("a", 1): DELETED, ("b", 5, "x"): ("a", 1), ("b", 7, "x"): ("a", 1)}
        for action in ("set_null", "set_default"):
            self.assertEqual(expected, reasons(replaced(action), "a", [1]))
        base = read_database(read_schema("table a\ntable b\ncolumn x null a:set_default"), "row a 1\nrow b 5 x=1\nrow b 6")
        self.assertEqual({("a", 1): DELETED, ("b", 5, "x"): ("a", 1)}, reasons(base, "a", [1]))

    def test_a_deleted_row_that_would_have_gone_anyway(self):
        base = ring()
        found = reasons(base, "a", [1, 2, 3])
        self.assertEqual([DELETED] * 3, [found[("a", row)] for row in (1, 2, 3)])

    def test_by_id(self):
        schema = read_schema("table c b:cascade\ntable b a:cascade\ntable a")
        base = read_database(schema, "row a 1\nrow b 1\nrow c 1\nrow a 2\nrow b 2")
        self.assertEqual({("a", 1): DELETED, ("b", 1): ("id", "a", 1), ("c", 1): ("id", "b", 1)}, reasons(base, "a", [1]))

    def test_rings(self):
        found = reasons(ring(), "a", [1])
        self.assertEqual(set(RING), set(found))
        account = Account(ring(), "a", [1], end_of(ring(), "a", [1]))
        self.assertTrue(account.accepts(found))
        self.assertTrue(explains(ring(), "a", [1], found))
        self.assertEqual(("x", "a", 3), found[("a", 4)])

    def test_new_each_time(self):
        base = goods()
        found = reasons(base, "user", [1])
        self.assertTrue(same(found, reasons(base, "user", [1])))
        found.clear()
        found["more"] = 1
        self.assertEqual(GOODS, reasons(base, "user", [1]))
        self.assertEqual(goods(), base)
        self.fails(NothingToUndo, {}, base.undo)

    def test_kinds(self):
        chance = random.Random(53)
        for _ in range(40):
            base, table, ids, _ = full_delete(chance)
            if end_of(base, table, ids) is not None:
                found = reasons(base, table, ids)
                self.assertIs(dict, found.__class__)
                for key, reason in found.items():
                    self.assertEqual((tuple, tuple), (key.__class__, reason.__class__))
                    self.assertEqual([str, int, str][:len(key)], [part.__class__ for part in key])
                    kinds = [str] if reason == DELETED else [str, str, int] if len(key) == 2 else [str, int]
                    self.assertEqual(kinds, [part.__class__ for part in reason])

    def test_random_deletes(self):
        chance, rows, values = random.Random(54), 0, 0
        while rows < 120 or values < 25:
            base, table, ids, _ = full_delete(chance)
            end = end_of(base, table, ids)
            if end is None:
                self.fails(Refused, {"cause": None}, reasons, base, table, ids)
                continue
            account, before = Account(base, table, ids, end), base.copy()
            found = reasons(base, table, ids)
            self.assertTrue(account.accepts(found), (str(base.schema), str(base), table, ids, found))
            self.assertIs(True, explains(base, table, ids, found))
            self.assertEqual(before, base)
            rows += len(account.rows) > len(set(ids))
            values += len(account.values) > 0


class Explained(Case):
    """What `explains` accepts."""

    def yes(self, base, table, ids, value):
        self.assertIs(True, explains(base, table, ids, value), value)

    def no(self, base, table, ids, value):
        self.assertIs(False, explains(base, table, ids, value), value)

    def test_by_hand(self):
        self.yes(goods(), "user", [1], GOODS)
        self.yes(goods(), "user", [1, 1], {key: GOODS[key] for key in reversed(GOODS)})
        self.yes(goods(), "user", [], {})
        self.no(goods(), "user", [], {("user", 1): DELETED})
        self.no(goods(), "user", [1], {})
        self.assertIs(True, explains(value=GOODS, ids=[1], table="user", database=goods()))

    def test_all_choices_in_rings(self):
        base = ring()
        account = Account(base, "a", [1], end_of(base, "a", [1]))
        self.assertEqual(RING, account.rows)
        counts = {True: 0, False: 0}
        for chosen in itertools.product(*RING.values()):
            value = dict(zip(RING, chosen))
            expected = account.accepts(value)
            self.assertIs(expected, explains(base, "a", [1], value), value)
            counts[expected] += 1
        # Two of the four choices of rows 2 and 3 lead back or not; those of rows 4 and 5 must not lean on one another.
        self.assertEqual({True: 3 * 2 * 4, False: 64 - 24}, counts)

    def test_what_leads_back(self):
        self.no(ring(), "a", [1], {**reasons(ring(), "a", [1]), ("a", 2): ("y", "a", 3), ("a", 3): ("x", "a", 2)})
        self.no(ring(), "a", [1], {**reasons(ring(), "a", [1]), ("a", 4): ("y", "a", 5)})
        alone = read_database(ring().schema, "row a 1\nrow a 2 x=1 y=2")
        self.yes(alone, "a", [1], {("a", 1): DELETED, ("a", 2): ("x", "a", 1)})
        self.no(alone, "a", [1], {("a", 1): DELETED, ("a", 2): ("y", "a", 2)})
        self.yes(alone, "a", [2], {("a", 2): DELETED})
        self.no(alone, "a", [2], {("a", 2): ("y", "a", 2)})

    def test_rings_of_ids(self):
        schema = read_schema("table a c:cascade\ntable b a:cascade\ntable c b:cascade\ntable d\ncolumn x b:cascade c:cascade")
        base = read_database(schema, "row a 1\nrow b 1\nrow c 1\nrow d 1 x=1")
        value = {("a", 1): DELETED, ("b", 1): ("id", "a", 1), ("c", 1): ("id", "b", 1)}
        self.yes(base, "a", [1], {**value, ("d", 1): ("x", "b", 1)})
        self.yes(base, "a", [1], {**value, ("d", 1): ("x", "c", 1)})
        self.no(base, "a", [1], {**value, ("d", 1): ("x", "b", 1), ("a", 1): ("id", "c", 1)})
        self.no(base, "a", [1], {**value, ("d", 1): ("x", "a", 1)})
        self.no(base, "a", [1], {**value, ("d", 1): ("id", "b", 1)})

    def test_several_reasons_for_one_value(self):
        schema = read_schema("table a\ntable b a:cascade\ntable c a:cascade\ntable e a:cascade\n"
                             "table d\ncolumn x null a:set_null b:set_default c:no_action e:set_null")
        base = read_database(schema, "row a 1\nrow b 1\nrow c 1\nrow e 1\nrow d 7 x=1\nrow d 8")
        value = {("a", 1): DELETED, **{(name, 1): ("id", "a", 1) for name in "bce"}}
        for name in "abe":
            self.yes(base, "a", [1], {**value, ("d", 7, "x"): (name, 1)})
        for reason in (("c", 1), ("d", 7), ("x", "a", 1), ("a", 2), ("a", 7), ("a",), (), ("a", 1, 1), ("a", None), DELETED):
            self.no(base, "a", [1], {**value, ("d", 7, "x"): reason})
        self.no(base, "a", [1], {**value, ("d", 7, "x"): ("a", 1), ("d", 8, "x"): ("a", 1)})
        self.no(base, "a", [1], {**value, ("d", 7, "x"): ("a", 1), ("d", 7): ("x", "a", 1)})

    def test_the_action_must_lead_to_the_value(self):
        schema = read_schema("table a\ntable b\ntable c\ncolumn x null default=2 a:set_null b:set_default")
        base = read_database(schema, "row a 1\nrow b 1\nrow a 2\nrow b 2\nrow c 5 x=1")
        for gone, stays in (("a", "b"), ("b", "a")):
            self.yes(base, gone, [1], {(gone, 1): DELETED, ("c", 5, "x"): (gone, 1)})
            self.no(base, gone, [1], {(gone, 1): DELETED, ("c", 5, "x"): (stays, 1)})
        # With two targets and one action only the one whose row has gone is right, whichever comes first.
        for action, new in (("set_null", None), ("set_default", 2)):
            for order in (("a", "b"), ("b", "a")):
                links = " ".join([f"{target}:{action}" for target in order])
                schema = read_schema(f"table a\ntable b\ntable c\ncolumn x null default=2 {links}")
                base = read_database(schema, "row a 1\nrow b 1\nrow a 2\nrow b 2\nrow c 5 x=1")
                for gone, stays in (("a", "b"), ("b", "a")):
                    value = {(gone, 1): DELETED, ("c", 5, "x"): (gone, 1)}
                    self.assertEqual({"x": new}, end_of(base, gone, [1]).record("c", 5))
                    self.assertEqual(value, reasons(base, gone, [1]))
                    self.yes(base, gone, [1], value)
                    self.no(base, gone, [1], {**value, ("c", 5, "x"): (stays, 1)})
        # Without a default both actions lead to None.
        schema = read_schema("table a\ntable b a:cascade\ntable c\ncolumn x null a:set_default b:set_null")
        base = read_database(schema, "row a 1\nrow b 1\nrow c 5 x=1")
        value = {("a", 1): DELETED, ("b", 1): ("id", "a", 1)}
        self.yes(base, "a", [1], {**value, ("c", 5, "x"): ("a", 1)})
        self.yes(base, "a", [1], {**value, ("c", 5, "x"): ("b", 1)})
        schema = read_schema("table a\ntable b a:cascade\ntable c\ncolumn x null a:no_action b:set_null")
        base = read_database(schema, "row a 1\nrow b 1\nrow c 5 x=1")
        self.no(base, "a", [1], {**value, ("c", 5, "x"): ("a", 1)})
        self.yes(base, "a", [1], {**value, ("c", 5, "x"): ("b", 1)})

    def test_the_reference_must_cascade(self):
        schema = read_schema("table a\ntable b a:cascade\ntable c\ncolumn x a:no_action b:cascade\ncolumn y null a:set_null")
        base = read_database(schema, "row a 1\nrow b 1\nrow c 5 x=1 y=1")
        value = {("a", 1): DELETED, ("b", 1): ("id", "a", 1)}
        self.yes(base, "a", [1], {**value, ("c", 5): ("x", "b", 1)})
        for reason in (("x", "a", 1), ("y", "a", 1), ("y", "b", 1), ("x", "b", 5), ("id", "b", 1), ("x", "c", 5), ("b", 1)):
            self.no(base, "a", [1], {**value, ("c", 5): reason})

    def test_a_key_less_or_more(self):
        base = goods()
        for key in GOODS:
            self.no(base, "user", [1], {other: GOODS[other] for other in GOODS if other != key})
        for key in (("user", 2), ("cart", 8), ("cart", 8, "owner"), ("cart", 7, "owner"), ("cart", 7, "payer"), ("cart", 9, "id"),
                    ("user", 3), ("user",), ("user", 1, "id"), ("x", 1), (), None, 1, "user", ("user", "1"), (1, "user"),
                    ("user", True), ("cart", 7, 1), (("user", 1),), ("user", None), ("cart", 7, "owner", "user")):
            for reason in (DELETED, ("owner", "user", 1), ("user", 1), None):
                if key != ("user", True):
                    self.no(base, "user", [1], {**GOODS, key: reason})
            for other in GOODS:
                self.no(base, "user", [1], {key if name == other else name: GOODS[name] for name in GOODS})

    def test_another_reference_or_another_id(self):
        base = goods()
        wrong = [DELETED, ("owner", "user", 2), ("payer", "user", 1), ("payer", "user", 2), ("id", "user", 1), ("owner", "cart", 1),
                 ("owner", "cart", 9), ("owner", "user", 9), ("owner", "user", None), ("user", 1), ("owner", "user"),
                 ("owner", "user", 1, 1), ("owner", 1), ("cart", "owner", "user", 1), ("cart", "owner", "user"), ()]
        for reason in wrong:
            self.no(base, "user", [1], {**GOODS, ("cart", 7): reason})
        for reason in wrong[1:] + [("owner", "user", 1), ("deleted", 1), ("gone",), (None,), ("id", "user", 1), ("Deleted",)]:
            self.no(base, "user", [1], {**GOODS, ("user", 1): reason})

    def test_true_is_no_id(self):
        base = goods()
        self.no(base, "user", [1], {("user", True): DELETED, ("cart", 7): GOODS[("cart", 7)], ("cart", 9): GOODS[("cart", 9)]})
        self.no(base, "user", [1], {**GOODS, ("cart", 7): ("owner", "user", True)})
        zero = read_database(free(), "row user 0\nrow user 1\nrow cart 1 owner=1 payer=0")
        value = {("user", 0): DELETED, ("cart", 1, "payer"): ("user", 0)}
        self.yes(zero, "user", [0], value)
        self.no(zero, "user", [0], {("user", False): DELETED, ("cart", 1, "payer"): ("user", 0)})
        self.no(zero, "user", [0], {("user", 0): DELETED, ("cart", True, "payer"): ("user", 0)})
        self.no(zero, "user", [0], {("user", 0): DELETED, ("cart", 1, "payer"): ("user", False)})

    def test_lists_in_place_of_tuples(self):
        for key in GOODS:
            self.no(goods(), "user", [1], {**GOODS, key: list(GOODS[key])})
            self.no(goods(), "user", [1], {**GOODS, key: {"a": GOODS[key]}})
            self.no(goods(), "user", [1], {**GOODS, key: [GOODS[key]]})
            self.no(goods(), "user", [1], {**GOODS, key: (GOODS[key],)})
        for value in (list(GOODS.items()), tuple(GOODS.items()), [GOODS], (GOODS,), list(GOODS), list(GOODS.values()), str(GOODS)):
            self.no(goods(), "user", [1], value)

    def test_values_of_every_kind(self):
        made = reasons(ring(), "a", [1])
        numbers = [number for number in odd_numbers() if number != 1]
        for value in odd_values() + numbers + [deep(12), [deep(11)] * 90, "a" * 20000, made, read_schema(MANY)]:
            self.no(goods(), "user", [1], value)
            for within in nested(value):
                self.no(goods(), "user", [1], within)
            for key in GOODS:
                self.no(goods(), "user", [1], {**GOODS, key: value})
                self.no(goods(), "user", [1], {**GOODS, key: (*GOODS[key], value)})
                self.no(goods(), "user", [1], {**GOODS, key: (*GOODS[key][:-1], value)})
                self.no(goods(), "user", [1], {**GOODS, key: (value, *GOODS[key][1:])})
            if value != {}:
                self.no(goods(), "user", [], value)

    def test_keys_of_every_kind(self):
        for value in odd_values() + odd_numbers() + [Console(shop()), stocked().trial(), ("user", Console(shop()))]:
            try:
                hash(value)
            except TypeError:
                continue
            self.no(goods(), "user", [1], {**GOODS, value: DELETED})
            self.no(goods(), "user", [1], {value: DELETED, **{key: GOODS[key] for key in list(GOODS)[1:]}})
            if value == 1 and not isinstance(value, bool):
                continue
            self.no(goods(), "user", [1], {("user", value): DELETED, **GOODS})
            self.no(goods(), "user", [1], {**GOODS, (value, 1): DELETED})
            self.no(goods(), "user", [1], {("user", value): DELETED, **{key: GOODS[key] for key in list(GOODS)[1:]}})

    def test_objects_of_the_package(self):
        for value in (Column("x"), Table("user"), free(), goods(), goods().trial(), Console(free()), NotFree(None)):
            self.no(goods(), "user", [1], value)
            for key in GOODS:
                for reason in (value, (value,), ("owner", "user", value), (value, "user", 1), [value]):
                    self.no(goods(), "user", [1], {**GOODS, key: reason})

    def test_of_another_delete(self):
        self.no(goods(), "user", [2], GOODS)
        self.no(goods(), "user", [1, 2], GOODS)
        self.no(goods(), "cart", [7], GOODS)
        self.yes(goods(), "user", [2], reasons(goods(), "user", [2]))
        self.no(goods(), "user", [1], reasons(goods(), "user", [2]))
        self.no(goods(), "user", [1], reasons(goods(), "user", [1, 2]))

    def test_nothing_changes(self):
        base, ids = goods(), [1, 1]
        for value in (GOODS, {**GOODS, ("user", 1): [1, [2]]}, {"a": {}}, [[GOODS]]):
            before = copy.deepcopy(value)
            explains(base, "user", ids, value)
            self.assertTrue(same(before, value))
        self.assertEqual((goods(), [1, 1]), (base, ids))
        self.fails(NothingToUndo, {}, base.undo)

    def test_all_choices_of_random_deletes(self):
        chance, counts = random.Random(55), {True: 0, False: 0}
        while min(counts.values()) < 250:
            base, table, ids, _ = full_delete(chance)
            end = end_of(base, table, ids)
            account = None if end is None else Account(base, table, ids, end)
            if account is None or not 1 < account.size() <= 64:
                continue
            for value in account.choices():
                expected = account.accepts(value)
                self.assertIs(expected, explains(base, table, ids, value), (str(base.schema), str(base), table, ids, value))
                counts[expected] += 1

    def test_spoilt_reasons_of_random_deletes(self):
        chance, counts = random.Random(56), {True: 0, False: 0}
        while counts[False] < 1200:
            base, table, ids, _ = full_delete(chance)
            end = end_of(base, table, ids)
            if end is None:
                continue
            account, found = Account(base, table, ids, end), reasons(base, table, ids)
            for key in list(found):
                for value in self.spoilt(base, found, key, chance):
                    expected = account.accepts(value)
                    self.assertIs(expected, explains(base, table, ids, value), (str(base.schema), str(base), table, ids, value))
                    counts[expected] += 1
        self.assertGreater(counts[True], 20)

    def spoilt(self, base, found, key, chance):
        """The same reasons with some other one, with a key less, and with a key more."""
        tables = base.schema.tables()
        rows = base.ids(key[0])
        columns = ["id", *base.schema.columns(key[0])]
        some = chance.choice(rows)
        yield {other: found[other] for other in found if other != key}
        yield {**found, key: found[chance.choice(list(found))]}
        yield {**found, key: (chance.choice(columns), chance.choice(tables), some)}
        yield {**found, key: (*found[key][:-1], some)}
        yield {**found, (key[0], some): (chance.choice(columns), chance.choice(tables), chance.choice(rows))}
        yield {**found, (key[0], some, chance.choice(columns)): (chance.choice(tables), chance.choice(rows))}

"""Runs [7, 8, 13]: the events of a row, replays, and the ends of all runs."""

import itertools
import random

from keyactions.databases import Database, read_database
from keyactions.errors import BadRun, NoRow, NothingToUndo, NotValid, NoTable, Refused
from keyactions.runs import ends, events_of, replay
from keyactions.schemas import read_schema
from samples import Case, odd_numbers, odd_values, shop, stocked
from test_deletes import Model, one_action, random_delete, run, two_ways

OWNER, PAYER = ("cart", "owner", "user", 1), ("cart", "payer", "user", 1)
FAULTY = "row user 1\nrow cart 7 owner=5\nrow cart 6 owner=1 payer=3"


class EventsOf(Case):
    def test_each_reference_to_the_table_makes_one(self):
        schema = read_schema("table c a:cascade\ncolumn y a:restrict b:restrict\ncolumn x null a:set_null\n"
                             "table a\ncolumn z a:no_action\ntable b a:restrict")
        self.assertEqual([("a", "z", "a", 4), ("b", "id", "a", 4), ("c", "id", "a", 4), ("c", "x", "a", 4),
                          ("c", "y", "a", 4)], events_of(schema, "a", 4))
        self.assertEqual([("c", "y", "b", 4)], events_of(schema, "b", 4))

    def test_a_table_that_no_reference_names(self):
        self.assertEqual([], events_of(shop(), "cart", 7))
        self.assertEqual([], events_of(read_schema("table a"), "a", 0))

    def test_every_integer(self):
        for row in (0, -1, -77, 10 ** 40 - 1, -(10 ** 40 - 1)):
            self.assertEqual([("cart", "owner", "user", row), ("cart", "payer", "user", row)],
                             events_of(shop(), "user", row))

    def test_no_table(self):
        for value in odd_values() + odd_numbers() + ["users", "id", "owner"]:
            self.fails(NoTable, {"table": value}, events_of, shop(), value, 1)

    def test_by_name(self):
        self.assertEqual([OWNER, PAYER], events_of(row=1, table="user", schema=shop()))

    def test_a_new_list_each_time(self):
        schema = shop()
        events_of(schema, "user", 1).clear()
        self.assertEqual([OWNER, PAYER], events_of(schema, "user", 1))


class Replay(Case):
    def test_a_run_that_is_done(self):
        base = stocked()
        end = replay(base, "user", [1], [OWNER, PAYER])
        self.assertIsInstance(end, Database)
        self.assertEqual("row user 2\nrow cart 8 owner=2 payer=null", str(end))
        self.assertEqual(stocked(), base)

    def test_each_action_in_a_run(self):
        event = ("b", "x", "a", 1)
        for action, left in (("cascade", "row b 6 x=2"), ("no_action", None), ("restrict", None),
                             ("set_null", "row b 5 x=null\nrow b 6 x=2\nrow b 7 x=null"),
                             ("set_default", "row b 5 x=2\nrow b 6 x=2\nrow b 7 x=2")):
            end = replay(one_action(action), "a", [1], [event])
            self.assertEqual(None if left is None else "row a 2\n" + left, None if end is None else str(end), action)

    def test_a_run_that_restrict_refuses(self):
        self.assertIsNone(replay(stocked(), "user", [1], [PAYER]))
        self.assertIsNone(replay(stocked(), "user", [1, 2], [("cart", "payer", "user", 2)]))
        self.assertIsNone(replay(stocked(), "user", [1, 2], [("cart", "owner", "user", 2), PAYER]))

    def test_a_run_that_a_fault_refuses_in_the_end(self):
        base = one_action("no_action")
        self.assertIsNone(replay(base, "a", [1], [("b", "x", "a", 1)]))
        schema = read_schema("table a\ntable b\ncolumn x null default=2 a:set_null")
        base = read_database(schema, "row a 1\nrow a 2\nrow b 1 x=1")
        self.assertIsNone(replay(base, "a", [2], [("b", "x", "a", 2)]))
        self.assertIsNotNone(replay(base, "a", [1], [("b", "x", "a", 1)]))

    def test_a_longer_run_in_several_orders(self):
        first = [("b", "x", "a", 1), ("b", "x", "a", 2), ("c", "y", "a", 1), ("c", "y", "a", 2)]
        last = [("c", "z", "b", row) for row in (5, 6, 7)]
        for events in itertools.permutations(first):
            for order in itertools.permutations(last):
                end = replay(two_ways(), "a", [1, 2], [*events, *order])
                self.assertEqual("row c 9 y=null z=null", str(end))

    def test_an_event_may_come_as_soon_as_it_is_made(self):
        events = [("b", "x", "a", 1), ("c", "z", "b", 6), ("c", "y", "a", 1)]
        self.assertEqual("row a 2\nrow b 5 x=2\nrow b 7 x=2\nrow c 9 y=null z=null",
                         str(replay(two_ways(), "a", [1], events)))
        self.fails(BadRun, {"index": 0}, replay, two_ways(), "a", [1], [events[1], events[0], events[2]])

    def test_deletes_of_no_ids_and_of_an_id_twice(self):
        self.assertEqual(stocked(), replay(stocked(), "user", [], []))
        self.assertEqual(stocked(), replay(stocked(), "cart", [], []))
        self.assertEqual("row user 2\nrow cart 8 owner=2 payer=null",
                         str(replay(stocked(), "user", [1, 1, 1], [OWNER, PAYER])))
        self.fails(BadRun, {"index": 1}, replay, stocked(), "user", [1, 1], [OWNER, OWNER])

    def test_a_delete_without_events(self):
        self.assertEqual("row user 1\nrow user 2\nrow cart 8 owner=2 payer=null",
                         str(replay(stocked(), "cart", [9, 7], [])))

    def test_an_event_too_many(self):
        self.fails(BadRun, {"index": 2}, replay, stocked(), "user", [1], [OWNER, PAYER, PAYER])
        self.fails(BadRun, {"index": 2}, replay, stocked(), "user", [1], [OWNER, PAYER, "more", None])
        self.fails(BadRun, {"index": 0}, replay, stocked(), "cart", [7], [OWNER])
        self.fails(BadRun, {"index": 0}, replay, stocked(), "user", [], [OWNER])
        self.fails(BadRun, {"index": 1}, replay, one_action("no_action"), "a", [1], [("b", "x", "a", 1), ()])

    def test_an_event_that_is_not_pending(self):
        other = ("cart", "owner", "user", 2)
        self.fails(BadRun, {"index": 0}, replay, stocked(), "user", [1], [other, OWNER, PAYER])
        self.fails(BadRun, {"index": 1}, replay, stocked(), "user", [1], [OWNER, other, PAYER])
        self.fails(BadRun, {"index": 1}, replay, stocked(), "user", [1], [OWNER, OWNER, PAYER])
        self.fails(BadRun, {"index": 0}, replay, stocked(), "user", [1], [("user", "owner", "cart", 1)])

    def test_behind_a_refusal(self):
        self.fails(BadRun, {"index": 1}, replay, stocked(), "user", [1], [PAYER, OWNER])
        self.fails(BadRun, {"index": 1}, replay, stocked(), "user", [1], [PAYER, PAYER])
        self.fails(BadRun, {"index": 1}, replay, stocked(), "user", [1], [PAYER, None, 3])
        two = ("cart", "owner", "user", 2)
        self.fails(BadRun, {"index": 2}, replay, stocked(), "user", [1, 2], [two, PAYER, OWNER])

    def test_a_list_that_stops_too_early(self):
        self.fails(BadRun, {"index": 0}, replay, stocked(), "user", [1], [])
        self.fails(BadRun, {"index": 1}, replay, stocked(), "user", [1], [OWNER])
        self.fails(BadRun, {"index": 2}, replay, two_ways(), "a", [1], [("b", "x", "a", 1), ("c", "y", "a", 1)])

    def test_no_events_at_all(self):
        wrong = [("cart", "owner", "user", True), ("cart", "owner", "user", "1"), ("cart", "owner", "user"),
                 ["cart", "owner", "user", 1], ("cart", "owner", "user", 1, 1), ("cart", "owner", "user", [1]),
                 ("cart", "owner", "user", None), (("cart", "owner", "user"), 1), [OWNER], (OWNER,)]
        for value in wrong + odd_values() + odd_numbers():
            with self.subTest(value=value):
                self.fails(BadRun, {"index": 0}, replay, stocked(), "user", [1], [value])
                self.fails(BadRun, {"index": 1}, replay, stocked(), "user", [1], [OWNER, value, PAYER])
                self.fails(BadRun, {"index": 2}, replay, stocked(), "user", [1], [OWNER, PAYER, value])
                self.fails(BadRun, {"index": 1}, replay, stocked(), "user", [1], [PAYER, value])

    def test_true_and_false_are_no_ids(self):
        base = read_database(read_schema("table a\ntable b\ncolumn x a:cascade"), "row a 0\nrow a 1\nrow b 1 x=0")
        for row in (0, 1):
            event = ("b", "x", "a", row)
            self.assertIsNotNone(replay(base, "a", [row], [event]))
            self.fails(BadRun, {"index": 0}, replay, base, "a", [row], [(*event[:3], bool(row))])
            self.fails(NoRow, {"table": "a", "row": bool(row)}, replay, base, "a", [bool(row)], [event])

    def test_an_equal_event_will_do(self):
        self.assertIsNotNone(replay(stocked(), "user", [1], [tuple(list(OWNER)), tuple(list(PAYER))]))

    def test_order_of_the_errors(self):
        base = read_database(shop(), FAULTY)
        fault = ("cart", 6, "payer", "user")
        self.fails(NoTable, {"table": "x"}, replay, base, "x", [9], [3])
        self.fails(NoRow, {"table": "user", "row": 9}, replay, base, "user", [1, 9, 8], [3])
        self.fails(NotValid, {"fault": fault}, replay, base, "user", [1], [3])
        self.fails(NotValid, {"fault": fault}, replay, base, "user", [], [])
        self.fails(BadRun, {"index": 0}, replay, stocked(), "user", [1], [3])

    def test_no_table_and_no_row(self):
        base = stocked()
        for value in odd_values():
            self.fails(NoTable, {"table": value}, replay, base, value, [], [])
            self.fails(NoRow, {"table": "user", "row": value}, replay, base, "user", [1, value], [OWNER])
        for row in odd_numbers()[:1] + [3, -1, 10 ** 40]:
            self.fails(NoRow, {"table": "user", "row": row}, replay, base, "user", [row], [])

    def test_nothing_changes(self):
        base, ids, events = stocked(), [1], [OWNER, PAYER]
        base.delete("cart", [9])
        end = replay(base, "user", ids, events)
        self.assertEqual(([1], [OWNER, PAYER]), (ids, events))
        base.undo()
        self.assertEqual(stocked(), base)
        self.fails(BadRun, {"index": 1}, replay, base, "user", ids, [OWNER])
        self.assertEqual(stocked(), base)
        self.fails(NothingToUndo, {}, end.undo)

    def test_the_end_is_a_database_of_its_own(self):
        base = stocked()
        ends_of = [replay(base, "user", [], []), replay(base, "user", [], [])]
        ends_of[0].delete("cart", [7])
        ends_of[0].insert("user", 5, {})
        self.assertEqual(stocked(), ends_of[1])
        self.assertEqual(stocked(), base)
        base.delete("cart", [8])
        self.assertEqual(stocked(), ends_of[1])
        self.fails(NothingToUndo, {}, ends_of[1].undo)
        self.assertEqual(shop(), ends_of[1].schema)

    def test_by_name(self):
        self.assertIsNone(replay(events=[PAYER], ids=[1], table="user", database=stocked()))

    def test_what_delete_fires_can_be_fired_again(self):
        chance = random.Random(8)
        done = refused = 0
        while done < 150 or refused < 100:
            base, table, ids, defaults = random_delete(chance)
            model, fired, cause = run(base, table, ids, chance, defaults)
            left = Database(base.schema)
            for entry in model.entries():
                left.insert(*entry)
            before = base.copy()
            end = replay(base, table, ids, fired)
            self.assertEqual(before, base)
            if cause is not None or left.faults():
                refused += 1
                self.assertIsNone(end)
            else:
                done += 1
                self.assertEqual(left, end)
            if cause is not None:
                self.fails(BadRun, {"index": len(fired)}, replay, base, table, ids, [*fired, *model.pending[:1], 1])
            if fired:
                self.fails(BadRun, {"index": len(fired) - 1}, replay, base, table, ids, fired[:-1])


def plain_ends(base, table, ids, defaults, most=10 ** 6):
    """The texts of the ends of all runs, found by firing all events in all orders; None if this takes too long."""
    start = Model(base)
    start.go([entry for entry in start.rows if entry[0] == table and entry[1]["id"] in ids])
    found, waiting = set(), [start]
    while waiting:
        model, most = waiting.pop(), most - 1
        if most < 0:
            return None
        if not model.pending:
            left = Database(model.schema)
            for entry in model.entries():
                left.insert(*entry)
            found.add(str(left) if left.is_valid() else None)
        for event in list(model.pending):
            later = Model.__new__(Model)
            later.schema, later.rows, later.pending = model.schema, list(model.rows), list(model.pending)
            if later.fire(event, defaults):
                waiting.append(later)
            else:
                found.add(None)
    return [None] * (None in found) + sorted(found - {None})


def texts(found):
    """The texts of some ends."""
    return [None if end is None else str(end) for end in found]


class Ends(Case):
    def test_one_end(self):
        self.assertEqual([stocked()], ends(stocked(), "user", []))
        self.assertEqual(["row user 1\nrow user 2"], texts(ends(stocked(), "cart", [9, 7, 8])))
        self.assertEqual(["row c 9 y=null z=null"], texts(ends(two_ways(), "a", [1, 2])))

    def test_refused_in_all_orders(self):
        self.assertEqual([None], ends(stocked(), "user", [2]))
        self.assertEqual([None], ends(one_action("no_action"), "a", [1]))
        self.assertEqual([None], ends(one_action("restrict"), "a", [1]))

    def test_none_comes_first(self):
        found = ends(stocked(), "user", [1, 2])
        self.assertEqual([None, ""], texts(found))
        self.assertEqual([None, "row user 2\nrow cart 8 owner=2 payer=null"], texts(ends(stocked(), "user", [1])))

    def test_the_order_of_the_texts(self):
        schema = read_schema("table a\ntable b a:cascade\ntable c\ncolumn x null default=9 a:set_null b:set_default")
        base = read_database(schema, "row a 1\nrow a 9\nrow b 1\nrow b 9\nrow c 5 x=1")
        self.assertEqual(["row a 9\nrow b 9\nrow c 5 x=9", "row a 9\nrow b 9\nrow c 5 x=null"],
                         texts(ends(base, "a", [1])))
        base.insert("c", 6, {"x": 1})
        rest = ["row c 5 x=9\nrow c 6 x=9", "row c 5 x=null\nrow c 6 x=null"]
        self.assertEqual(["row a 9\nrow b 9\n" + lines for lines in rest], texts(ends(base, "a", [1])))

    def test_texts_are_ordered_as_strings(self):
        schema = read_schema("table a\ntable b a:cascade\ntable c\ncolumn x null default=10 a:set_default b:cascade")
        base = read_database(schema, "row a 1\nrow a 10\nrow b 1\nrow b 10\nrow c 5 x=1\nrow c 40 x=10")
        found = texts(ends(base, "a", [1]))
        self.assertEqual(["row a 10\nrow b 10\nrow c 40 x=10", "row a 10\nrow b 10\nrow c 5 x=10\nrow c 40 x=10"], found)
        self.assertEqual(sorted(found), found)

    def test_several_ends_and_none(self):
        schema = read_schema("table a\ntable b a:cascade\ntable d a:cascade\n"
                             "table c\ncolumn x null default=9 a:set_null b:set_default d:restrict")
        base = read_database(schema, "row a 1\nrow a 9\nrow b 1\nrow b 9\nrow d 1\nrow d 9\nrow c 5 x=1")
        head = "row a 9\nrow b 9\nrow d 9\n"
        self.assertEqual([None, head + "row c 5 x=9", head + "row c 5 x=null"], texts(ends(base, "a", [1])))

    def test_each_end_is_a_database_of_its_own(self):
        schema = read_schema("table a\ntable b a:cascade\ntable c\ncolumn x null default=9 a:set_null b:set_default")
        base = read_database(schema, "row a 1\nrow a 9\nrow b 1\nrow b 9\nrow c 5 x=1\nrow c 6 x=9")
        one, other = ends(base, "a", [1])
        before = str(other)
        self.fails(NothingToUndo, {}, one.undo)
        one.delete("c", [5, 6])
        base.delete("c", [5, 6])
        self.assertEqual(before, str(other))
        self.fails(NothingToUndo, {}, other.undo)
        self.assertEqual(["row a 9\nrow b 9"], texts(ends(base, "a", [1])))
        self.assertEqual("row a 1\nrow a 9\nrow b 1\nrow b 9", str(base))

    def test_the_first_run_of_delete_ends_in_one_of_them(self):
        for base, table, ids in ((stocked(), "user", [1, 2]), (stocked(), "user", [2]), (two_ways(), "a", [2])):
            found = ends(base, table, ids)
            try:
                base.delete(table, ids)
            except Refused:
                base = None
            self.assertIn(base, found)

    def test_ids_may_come_twice(self):
        self.assertEqual(ends(stocked(), "user", [1, 2]), ends(stocked(), "user", [2, 1, 2]))

    def test_eight_events_in_a_chain(self):
        schema = read_schema("table a\ntable b a:cascade\ntable c\ncolumn x null default=9 a:set_null b:set_default\n"
                             "column y null b:cascade\ntable d\ncolumn z null c:restrict a:no_action")
        base = read_database(schema, "row a 1\nrow a 9\nrow b 1\nrow b 9\nrow c 1 x=1\nrow c 2 x=null y=1\nrow c 9\n"
                                     "row c 4 x=1 y=1\nrow c 5 x=9 y=1\nrow d 5 z=9\nrow d 7 z=null")
        found = ends(base, "a", [1])
        self.assertEqual(2, len(found))
        self.assertEqual(plain_ends(base, "a", [1], {("c", "x"): 9}), texts(found))
        self.assertEqual(8, len(base.delete("a", [1])))

    def test_eight_events_of_one_delete(self):
        schema = read_schema("table a\ntable b\ncolumn x null a:set_null\ncolumn y null a:set_null\n"
                             "column z null a:set_null\ntable c\ncolumn x null a:set_null")
        base = read_database(schema, "row a 1\nrow a 2\nrow b 1 x=1 y=2 z=1\nrow b 2 x=2 y=2 z=2\nrow c 7 x=2\nrow c 8 x=1")
        defaults = {(table, column): None for table in "bc" for column in "xyz"}
        self.assertEqual(8, len(base.copy().delete("a", [1, 2])))
        self.assertEqual(plain_ends(base, "a", [1, 2], defaults), texts(ends(base, "a", [1, 2])))

    def test_against_all_orders(self):
        chance = random.Random(9)
        counts = {}
        while sum(counts.values()) < 200 or len(counts) < 3:
            base, table, ids, defaults = random_delete(chance)
            if len(run(base, table, ids, chance, defaults)[1]) > 6:
                continue
            expected = plain_ends(base, table, ids, defaults, 150)
            if expected is None:
                continue
            before = base.copy()
            found = ends(base, table, ids)
            self.assertEqual(expected, texts(found))
            self.assertEqual(before, base)
            kind = (None in found, min(2, len(found)))
            counts[kind] = counts.get(kind, 0) + 1
        self.assertLessEqual({(True, 1), (False, 1)}, set(counts))

    def test_order_of_the_errors(self):
        base = read_database(shop(), FAULTY)
        self.fails(NoTable, {"table": "x"}, ends, base, "x", [9])
        self.fails(NoRow, {"table": "user", "row": 9}, ends, base, "user", [1, 9, 8])
        self.fails(NotValid, {"fault": ("cart", 6, "payer", "user")}, ends, base, "user", [1])
        self.fails(NotValid, {"fault": ("cart", 6, "payer", "user")}, ends, base, "user", [])

    def test_no_table_and_no_row(self):
        base = stocked()
        for value in odd_values():
            self.fails(NoTable, {"table": value}, ends, base, value, [])
            self.fails(NoRow, {"table": "user", "row": value}, ends, base, "user", [2, value])

    def test_errors_of_a_large_delete(self):
        lines = ["row a 0"] + [f"row a {row} x={row - 1} y={row - 1}" for row in range(1, 400)]
        schema = read_schema("table a\ncolumn x null a:cascade\ncolumn y null a:set_null\ntable b\ncolumn z default=1 a:cascade")
        base = read_database(schema, "\n".join(lines))
        self.fails(NoRow, {"table": "a", "row": 400}, ends, base, "a", [0, 400])
        base = read_database(schema, "\n".join(lines[:1] + lines[2:]))
        self.assertEqual(399, len(base))
        self.fails(NotValid, {"fault": ("b", None, "z", "a")}, ends, base, "a", [0])

    def test_by_name(self):
        self.assertEqual([stocked()], ends(ids=[], table="user", database=stocked()))

"""Databases: `undo`, `trial` and `attempt`."""

import unittest

from keyactions.databases import Database, read_database
from keyactions.errors import BadValue, Full, NothingToUndo, NotValid, NoTable, Refused, Taken
from keyactions.schemas import read_schema
from samples import Case, shop, stocked


class Stop(Exception):
    """An error of the caller."""


def chain():
    """A valid database in which one delete takes rows, sets values to None and to a default."""
    schema = read_schema("table a\ntable b\ncolumn x a:cascade\ncolumn y null b:set_null\n"
                         "table c\ncolumn d default=1 a:no_action b:set_default")
    return read_database(schema, "\n".join([
        "row a 1", "row a 2", "row b 1 x=1 y=null", "row b 2 x=2 y=1", "row b 3 x=2 y=2", "row b 4 x=1 y=3",
        "row c 1 d=1", "row c 2 d=2",
    ]))


class Undo(Case):
    def test_inserts(self):
        base = Database(shop())
        base.insert("user", 1, {})
        base.insert("cart", 7, {"owner": 1})
        self.assertIsNone(base.undo())
        self.assertEqual([("user", 1, {})], base.rows())
        base.undo()
        self.assertEqual([], base.rows())
        self.fails(NothingToUndo, {}, base.undo)

    def test_deletes(self):
        base = chain()
        base.delete("a", [2])
        self.assertEqual("row a 1\nrow b 1 x=1 y=null\nrow b 4 x=1 y=null\nrow c 1 d=1\nrow c 2 d=1", str(base))
        base.undo()
        self.assertEqual(chain(), base)
        self.fails(NothingToUndo, {}, base.undo)

    def test_a_delete_of_no_ids_is_a_step(self):
        base = stocked()
        base.insert("user", 3, {})
        base.delete("user", [])
        base.undo()
        self.assertIn(("user", 3), base)
        base.undo()
        self.assertEqual(stocked(), base)
        self.fails(NothingToUndo, {}, base.undo)

    def test_several_steps(self):
        base = chain()
        seen = [base.copy()]
        for step in (lambda: base.insert("c", 3, {"d": 2}), lambda: base.delete("a", [2]), lambda: base.insert("a", 2, {}),
                     lambda: base.insert("b", 2, {"x": 2}), lambda: base.delete("b", [4, 2]), lambda: base.delete("c", []),
                     lambda: base.delete("c", [1, 2, 3])):
            step()
            seen.append(base.copy())
        for before in reversed(seen[:-1]):
            base.undo()
            self.assertEqual(before, base)
        self.fails(NothingToUndo, {}, base.undo)

    def test_steps_after_an_undo(self):
        base = Database(shop())
        base.insert("user", 1, {})
        base.insert("user", 2, {})
        base.undo()
        base.insert("user", 3, {})
        base.undo()
        self.assertEqual([1], base.ids("user"))
        base.delete("user", [1])
        base.undo()
        base.undo()
        self.assertEqual(0, len(base))
        self.fails(NothingToUndo, {}, base.undo)

    def test_calls_that_raise_are_no_steps(self):
        base = stocked()
        base.insert("user", 3, {})
        self.fails(Taken, {"table": "user", "row": 3}, base.insert, "user", 3, {})
        self.fails(BadValue, {"column": "owner"}, base.insert, "cart", 3, {})
        self.fails(Refused, {"cause": ("cart", "payer", "user", 2)}, base.delete, "user", [2])
        self.fails(NoTable, {"table": 1}, base.delete, 1, [])
        base.undo()
        self.assertEqual(stocked(), base)
        self.fails(NothingToUndo, {}, base.undo)

    def test_an_invalid_delete_is_no_step(self):
        base = Database(shop())
        base.insert("cart", 3, {"owner": 1})
        self.fails(NotValid, {"fault": ("cart", 3, "owner", "user")}, base.delete, "cart", [])
        base.undo()
        self.assertEqual(0, len(base))

    def test_what_changes_nothing_is_no_step(self):
        base = stocked()
        base.insert("user", 3, {})
        base.copy(), base.rows(), base.faults(), list(base.walk()), base.attempt(lambda same: same.insert("user", 4, {}))
        base.undo()
        self.assertEqual(stocked(), base)

    def test_a_full_database(self):
        base = Database(shop())
        for row in range(400):
            base.insert("user", row, {})
        self.fails(Full, {"most": 400}, base.insert, "user", 400, {})
        base.undo()
        self.assertEqual(list(range(399)), base.ids("user"))


class Trials(Case):
    def test_it_gives_the_database(self):
        base = stocked()
        with base.trial() as same:
            self.assertIs(base, same)

    def test_all_is_reverted_at_the_end(self):
        base = chain()
        with base.trial() as same:
            same.insert("a", 3, {})
            base.delete("a", [2])
            self.assertEqual([1, 3], base.ids("a"))
            self.assertEqual({"d": 1}, same.record("c", 2))
        self.assertEqual(chain(), base)
        self.fails(NothingToUndo, {}, base.undo)

    def test_errors_pass_through(self):
        base = chain()
        with self.assertRaises(Stop):
            with base.trial() as same:
                same.delete("a", [2])
                raise Stop()
        self.assertEqual(chain(), base)
        with self.assertRaises(Taken):
            with base.trial() as same:
                same.delete("a", [2])
                same.insert("a", 1, {})
        self.assertEqual(chain(), base)

    def test_what_can_be_undone(self):
        base = stocked()
        base.insert("user", 3, {})
        base.insert("user", 4, {})
        base.undo()
        with base.trial() as same:
            self.fails(NothingToUndo, {}, same.undo)
            same.insert("user", 5, {})
            same.delete("cart", [7])
            same.undo()
            same.undo()
            self.fails(NothingToUndo, {}, same.undo)
            self.assertEqual([1, 2, 3], same.ids("user"))
            same.insert("user", 6, {})
        self.assertEqual([1, 2, 3], base.ids("user"))
        base.undo()
        self.assertEqual(stocked(), base)
        self.fails(NothingToUndo, {}, base.undo)

    def test_steps_of_the_trial_do_not_stay(self):
        base = stocked()
        with base.trial() as same:
            same.insert("user", 3, {})
            same.delete("cart", [7])
        self.fails(NothingToUndo, {}, base.undo)
        self.assertEqual(stocked(), base)

    def test_nested(self):
        base = stocked()
        base.insert("user", 3, {})
        with base.trial() as outer:
            outer.insert("user", 4, {})
            with outer.trial() as inner:
                self.assertIs(base, inner)
                self.fails(NothingToUndo, {}, inner.undo)
                inner.insert("user", 5, {})
                with inner.trial():
                    base.delete("cart", [7, 8, 9])
                    base.delete("user", [1, 2, 3, 4, 5])
                    self.assertEqual(0, len(base))
                self.assertEqual([1, 2, 3, 4, 5], base.ids("user"))
            self.assertEqual([1, 2, 3, 4], base.ids("user"))
            outer.undo()
            self.assertEqual([1, 2, 3], base.ids("user"))
            self.fails(NothingToUndo, {}, outer.undo)
        base.undo()
        self.assertEqual(stocked(), base)

    def test_an_error_through_nested_trials(self):
        base = stocked()
        try:
            with base.trial():
                base.insert("user", 3, {})
                try:
                    with base.trial():
                        base.insert("user", 4, {})
                        raise Stop()
                finally:
                    self.assertEqual([1, 2, 3], base.ids("user"))
        except Stop:
            self.assertEqual(stocked(), base)
        else:
            self.fail("the error is gone")

    def test_one_after_the_other(self):
        base = stocked()
        trial = base.trial()
        for _ in range(2):
            with trial as same:
                same.delete("cart", [7])
                self.assertEqual([8, 9], base.ids("cart"))
            self.assertEqual(stocked(), base)

    def test_one_trial_within_itself(self):
        base = stocked()
        trial = base.trial()
        with trial:
            base.insert("user", 3, {})
            with trial:
                base.insert("user", 4, {})
            self.assertEqual([1, 2, 3], base.ids("user"))
        self.assertEqual(stocked(), base)

    def test_it_begins_with_its_block(self):
        base = stocked()
        trial = base.trial()
        base.insert("user", 3, {})
        with trial:
            base.insert("user", 4, {})
        self.assertEqual([1, 2, 3], base.ids("user"))

    def test_copies_outlive_it(self):
        base = stocked()
        with base.trial():
            base.insert("user", 3, {})
            other = base.copy()
        self.assertEqual([1, 2, 3], other.ids("user"))
        self.fails(NothingToUndo, {}, other.undo)

    def test_databases_are_apart(self):
        one, other = stocked(), stocked()
        with one.trial():
            other.insert("user", 3, {})
            one.insert("user", 4, {})
        self.assertEqual([[1, 2], [1, 2, 3]], [one.ids("user"), other.ids("user")])
        other.undo()

    def test_a_delete_that_is_refused_within_a_trial(self):
        base = stocked()
        with base.trial():
            base.insert("user", 3, {})
            self.fails(Refused, {"cause": ("cart", "payer", "user", 2)}, base.delete, "user", [2])
            base.undo()
            self.assertEqual(stocked(), base)


class Attempts(Case):
    def test_it_returns_the_result(self):
        base = chain()
        self.assertEqual([1], base.attempt(lambda same: [same.delete("a", [2]), same.ids("a")][1]))
        self.assertEqual(chain(), base)
        self.assertIsNone(base.attempt(function=lambda same: None))
        self.assertEqual(0, base.attempt(lambda same: 0))

    def test_the_function_gets_the_database(self):
        base = stocked()
        self.assertIs(base, base.attempt(lambda same: same))

    def test_errors_pass_through(self):
        base = stocked()
        self.fails(Refused, {"cause": ("cart", "payer", "user", 2)}, base.attempt,
                   lambda same: (same.insert("user", 3, {}), same.delete("user", [2])))
        self.assertEqual(stocked(), base)

    def test_what_can_be_undone(self):
        base = stocked()
        base.insert("user", 3, {})
        self.fails(NothingToUndo, {}, base.attempt, lambda same: same.undo())
        base.attempt(lambda same: (same.insert("user", 4, {}), same.undo()))
        base.attempt(lambda same: same.attempt(lambda again: again.delete("cart", [7])))
        base.undo()
        self.assertEqual(stocked(), base)


if __name__ == "__main__":
    unittest.main()

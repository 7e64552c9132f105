"""Columns and tables [4, 5]: what may be, what may not be, and the order of the errors."""

import unittest

from keyactions.errors import BadAction, BadColumn, BadName, BadTable
from keyactions.schemas import Column, Schema, Table
from samples import ACTIONS, Case, odd_numbers, odd_values

NO_NAMES = odd_values() + odd_numbers() + ["Ab", "aB", "a.", "abcdefgh ", "abc1", "`", "{", "abcdefghi"]
NO_LINKS = odd_values() + odd_numbers() + [
    "a", "a:cascade", ["a", "cascade"], ("a",), ("a", "cascade", "cascade"), ("A", "cascade"), ("", "cascade"),
    ("abcdefghi", "cascade"), ("a", "Cascade"), ("a", ""), ("a", None), ("a", 1), (1, "cascade"), (None, "cascade"),
    ("a", ["cascade"]), (["a"], "cascade"), ("cascade", "a"), ("a", "delete"), ("a", ("cascade",)), ("a", {}),
]


class Columns(Case):
    def test_fields(self):
        column = Column("owner", ("user", "cascade"), ("cart", "set_default"), nullable=True, default=-5)
        self.assertEqual("owner", column.name)
        self.assertEqual((("user", "cascade"), ("cart", "set_default")), column.links)
        self.assertIs(True, column.nullable)
        self.assertEqual(-5, column.default)

    def test_fields_when_only_the_name_is_passed(self):
        column = Column("x")
        self.assertEqual(["x", (), False, None], [column.name, column.links, column.nullable, column.default])
        self.assertIs(False, column.nullable)

    def test_arguments_by_name(self):
        self.assertEqual(Column("x", nullable=True, default=3), Column(name="x", nullable=True, default=3))

    def test_references_keep_their_order(self):
        links = (("c", "restrict"), ("a", "cascade"), ("b", "no_action"))
        self.assertEqual(links, Column("x", *links).links)

    def test_names_of_columns(self):
        for name in ("a", "z", "abcdefgh", "ids", "i", "null", "default", "column", "table"):
            self.assertEqual(name, Column(name).name)
        for name in NO_NAMES + ["id"]:
            with self.subTest(name=name):
                self.fails(BadName, {"value": name}, Column, name)

    def test_nullable_is_a_bool(self):
        for value in [value for value in odd_values() + odd_numbers() + ["True"] if not isinstance(value, bool)]:
            with self.subTest(value=value):
                self.fails(BadColumn, {"name": "x"}, Column, "x", nullable=value)

    def test_default_is_an_integer_or_none(self):
        for value in (0, 1, -1, 10 ** 39, -(10 ** 40) + 1, None):
            self.assertEqual(value, Column("x", default=value).default)
        for value in [value for value in odd_values() + ["1", (1,)] if value is not None]:
            with self.subTest(value=value):
                self.fails(BadColumn, {"name": "x"}, Column, "x", default=value)

    def test_what_is_no_reference(self):
        for value in NO_LINKS:
            with self.subTest(value=value):
                self.fails(BadAction, {"value": value}, Column, "x", value, nullable=True, default=1)
                self.fails(BadAction, {"value": value}, Column, "x", ("b", "cascade"), value, ("c", "x"),
                           nullable=True, default=1)

    def test_actions_that_a_column_may_have(self):
        for nullable in (False, True):
            for default in (None, 0, 7):
                for action in ACTIONS:
                    link = ("a", action)
                    allowed = not (action == "set_null" and not nullable
                                   or action == "set_default" and not nullable and default is None)
                    with self.subTest(link=link, nullable=nullable, default=default):
                        if allowed:
                            column = Column("x", link, nullable=nullable, default=default)
                            self.assertEqual((link,), column.links)
                        else:
                            self.fails(BadAction, {"value": link}, Column, "x", link, nullable=nullable,
                                       default=default)

    def test_the_first_bad_reference_is_told(self):
        links = [("a", "cascade"), ("b", "set_null"), ("c", "set_default"), ("a", "x")]
        self.fails(BadAction, {"value": ("b", "set_null")}, Column, "x", *links)
        self.fails(BadAction, {"value": ("c", "set_default")}, Column, "x", *links[2:])

    def test_targets_are_different_and_at_most_four(self):
        four = [(name, "cascade") for name in "abcd"]
        self.assertEqual(tuple(four), Column("x", *four).links)
        self.fails(BadColumn, {"name": "x"}, Column, "x", *four, ("e", "cascade"))
        self.fails(BadColumn, {"name": "x"}, Column, "x", ("a", "cascade"), ("b", "cascade"), ("a", "restrict"))
        self.fails(BadColumn, {"name": "x"}, Column, "x", ("a", "cascade"), ("a", "cascade"))

    def test_a_target_may_be_called_id(self):
        self.assertEqual((("id", "cascade"),), Column("x", ("id", "cascade")).links)

    def test_order_of_the_errors(self):
        twice = [("a", "cascade"), ("a", "cascade")]
        self.fails(BadName, {"value": 5}, Column, 5, 7, nullable=0, default=True)
        self.fails(BadColumn, {"name": "x"}, Column, "x", 7, nullable=0)
        self.fails(BadColumn, {"name": "x"}, Column, "x", 7, default="1")
        self.fails(BadAction, {"value": 7}, Column, "x", *twice, 7)
        self.fails(BadAction, {"value": 7}, Column, "x", 7, *twice)

    def test_equality(self):
        one = Column("x", ("a", "cascade"), ("b", "restrict"), nullable=True, default=1)
        self.assertTrue(one == Column("x", ("a", "cascade"), ("b", "restrict"), nullable=True, default=1))
        self.assertFalse(one != Column("x", ("a", "cascade"), ("b", "restrict"), nullable=True, default=1))
        links = [("a", "cascade"), ("b", "restrict")]
        others = [
            Column("y", *links, nullable=True, default=1), Column("x", *links[::-1], nullable=True, default=1),
            Column("x", links[0], nullable=True, default=1), Column("x", *links, default=1),
            Column("x", *links, nullable=True, default=2), Column("x", *links, nullable=True),
            Column("x", ("a", "cascade"), ("b", "cascade"), nullable=True, default=1),
            Column("x", ("a", "cascade"), ("c", "restrict"), nullable=True, default=1),
        ]
        for other in others + odd_values() + odd_numbers() + ["x"]:
            with self.subTest(other=other):
                self.assertFalse(one == other)
                self.assertFalse(other == one)
                self.assertTrue(one != other)
        self.assertFalse(Column("x", default=0) == Column("x"))


class Tables(Case):
    def test_fields(self):
        one, other = Column("x", ("a", "cascade")), Column("y")
        table = Table("a", one, other, ids=(("b", "restrict"), ("c", "cascade")))
        self.assertEqual("a", table.name)
        self.assertEqual((one, other), table.parts)
        self.assertEqual((("b", "restrict"), ("c", "cascade")), table.links)

    def test_fields_when_only_the_name_is_passed(self):
        table = Table("a")
        self.assertEqual(["a", (), ()], [table.name, table.parts, table.links])
        self.assertEqual(table, Table(name="a", ids=()))

    def test_names_of_tables(self):
        for name in ("a", "z", "abcdefgh", "id", "ids", "row", "table"):
            self.assertEqual(name, Table(name).name)
        for name in NO_NAMES:
            with self.subTest(name=name):
                self.fails(BadName, {"value": name}, Table, name)

    def test_what_is_no_reference_of_id(self):
        for value in NO_LINKS:
            with self.subTest(value=value):
                self.fails(BadAction, {"value": value}, Table, "t", ids=(value,))
                self.fails(BadAction, {"value": value}, Table, "t", ids=(("b", "cascade"), value, ("c", "x")))

    def test_actions_of_id(self):
        for action in ACTIONS:
            with self.subTest(action=action):
                if action in ("set_null", "set_default"):
                    self.fails(BadAction, {"value": ("a", action)}, Table, "t", ids=(("a", action),))
                else:
                    self.assertEqual((("a", action),), Table("t", ids=(("a", action),)).links)

    def test_id_may_not_have_the_actions_of_other_columns_of_the_table(self):
        column = Column("x", nullable=True, default=1)
        self.fails(BadAction, {"value": ("a", "set_null")}, Table, "t", column, ids=(("a", "set_null"),))

    def test_targets_of_id_are_different_others_and_at_most_four(self):
        four = tuple((name, "cascade") for name in "abcd")
        self.assertEqual(four, Table("t", ids=four).links)
        self.fails(BadTable, {"name": "t"}, Table, "t", ids=four + (("e", "cascade"),))
        self.fails(BadTable, {"name": "t"}, Table, "t", ids=(("a", "cascade"), ("a", "restrict")))
        self.fails(BadTable, {"name": "t"}, Table, "t", ids=(("t", "cascade"),))
        self.fails(BadTable, {"name": "t"}, Table, "t", ids=(("a", "cascade"), ("t", "no_action")))

    def test_other_columns_may_reference_their_own_table(self):
        self.assertEqual("t", Table("t", Column("x", ("t", "cascade"))).parts[0].links[0][0])

    def test_columns_have_different_names_and_are_at_most_three(self):
        three = [Column(name) for name in "abc"]
        self.assertEqual(tuple(three), Table("t", *three).parts)
        self.fails(BadTable, {"name": "t"}, Table, "t", *three, Column("d"))
        self.fails(BadTable, {"name": "t"}, Table, "t", Column("a"), Column("b"), Column("a", nullable=True))
        self.fails(BadTable, {"name": "t"}, Table, "t", Column("a"), Column("a"))

    def test_a_column_may_have_the_name_of_a_table(self):
        self.assertEqual("t", Table("t", Column("t")).parts[0].name)

    def test_order_of_the_errors(self):
        twice = [Column("a"), Column("a")]
        self.fails(BadName, {"value": "T"}, Table, "T", *twice, ids=(7,))
        self.fails(BadAction, {"value": 7}, Table, "t", *twice, ids=(("t", "cascade"), ("a", "cascade"), 7))
        self.fails(BadAction, {"value": ("t", "set_null")}, Table, "t", ids=(("t", "set_null"), ("t", "x")))

    def test_equality(self):
        def made(name="t", columns=(Column("x"), Column("y")), ids=(("a", "cascade"), ("b", "restrict"))):
            return Table(name, *columns, ids=ids)
        self.assertTrue(made() == made())
        self.assertFalse(made() != made())
        others = [
            made(name="u"), made(columns=(Column("y"), Column("x"))), made(columns=(Column("x"),)),
            made(columns=(Column("x"), Column("y", default=1))), made(ids=(("b", "restrict"), ("a", "cascade"))),
            made(ids=(("a", "cascade"),)), made(ids=(("a", "restrict"), ("b", "restrict"))), made(ids=()),
        ]
        for other in others + odd_values() + odd_numbers() + ["t", Schema(Table("t"))]:
            with self.subTest(other=other):
                self.assertFalse(made() == other)
                self.assertFalse(other == made())
                self.assertTrue(made() != other)

    def test_a_table_has_columns_of_its_own(self):
        column = Column("x", ("a", "cascade"))
        table = Table("t", column)
        column.name, column.links = "y", ()
        self.assertEqual(Table("t", Column("x", ("a", "cascade"))), table)
        other = Table("t", *table.parts)
        other.parts[0].default = 5
        self.assertIsNone(table.parts[0].default)


if __name__ == "__main__":
    unittest.main()

"""The texts of databases [18]: `str` and `read_database`."""

import unittest

from keyactions.databases import Database, read_database
from keyactions.errors import BadText, BadValue, Full, NoColumn, NothingToUndo, NoTable, Taken
from keyactions.schemas import read_schema
from samples import Case, odd_numbers, odd_values, shop, stocked

BIG = "9" * 40
WRONG_LINES = [
    " ", "row", "row ", "row user", "row user ", " row user 3", "row  user 3", "row user  3", "row user 3 ", "Row user 3",
    "rows user 3", "user 3", "row user 3 4", "row User 3", "row user1 3", "row abcdefghi 3", "row user x", "row user null",
    "row cart 3 owner", "row cart 3 owner=", "row cart 3 =1", "row cart 3 owner=1  payer=1", "row cart 3 owner==1",
    "row cart 3 owner=1=1", "row cart 3 Owner=1", "row cart 3 owner=Null", "row cart 3 owner=None", "row cart 3 owner:1",
    "row cart 3 owner=1 payer", "row cart 3 owner=1 owner=1", "row cart 3 owner=1 payer=2 owner=null",
    "row cart 3 x=1 x=1", "row cart owner=1", "row cart owner=1 3", "row cart 3, owner=1", "row cart 3 owner =1",
    "row cart 3 o1=1", "row cart 3 abcdefghi=1", "table user", "row cart 3\towner=1", "row cart 3 owner=1\r",
]
WRONG_NUMBERS = [
    "", "-", "-0", "00", "01", "-01", "+1", "1.0", "1e3", "0x1", "1_0", "--1", "1-", "a", "True", BIG + "0",
    "-" + BIG + "0", "0" * 41,
]


class Writing(Case):
    def test_lines(self):
        self.assertEqual("row user 1\nrow user 2\nrow cart 7 owner=1 payer=2\nrow cart 8 owner=2 payer=null\n"
                         "row cart 9 owner=1 payer=1", str(stocked()))
        self.assertEqual("", str(Database(shop())))

    def test_order(self):
        base = Database(read_schema("table z\ncolumn y null\ncolumn x null\ntable a"))
        base.insert("a", 10, {})
        base.insert("a", 9, {})
        base.insert("a", -1, {})
        base.insert("z", 5, {"x": 0, "y": -1})
        self.assertEqual("row z 5 y=-1 x=0\nrow a -1\nrow a 9\nrow a 10", str(base))


class Reading(Case):
    def test_what_is_written_is_read_back(self):
        for base in (stocked(), Database(shop()), read_database(shop(), f"row user {BIG}\nrow user -{BIG}\nrow user 0")):
            self.assertEqual(base, read_database(base.schema, str(base)))
            self.assertEqual(str(base), str(read_database(schema=base.schema, text=str(base))))

    def test_faulty_databases_are_read_too(self):
        base = read_database(shop(), "row cart 1 owner=5 payer=6")
        self.assertEqual([("cart", 1, "owner", "user"), ("cart", 1, "payer", "user")], base.faults())

    def test_rows_and_words_in_any_order(self):
        text = "row cart 9 payer=1 owner=1\nrow cart 7 payer=2 owner=1\nrow user 2\nrow cart 8 owner=2\nrow user 1"
        self.assertEqual(stocked(), read_database(shop(), text))

    def test_words_that_are_left_out(self):
        schema = read_schema("table t\ncolumn a default=4\ncolumn b null default=-4\ncolumn c null")
        base = read_database(schema, "row t 1\nrow t 2 b=null\nrow t 3 c=7 a=0")
        self.assertEqual([{"a": 4, "b": -4, "c": None}, {"a": 4, "b": None, "c": None}, {"a": 0, "b": -4, "c": 7}],
                         [base.record("t", row) for row in (1, 2, 3)])

    def test_numbers(self):
        for number in ("0", "1", "-1", "10", "-100", BIG, "-" + BIG, "1" + "0" * 39):
            base = read_database(shop(), f"row cart {number} owner={number}")
            self.assertEqual([("cart", int(number), {"owner": int(number), "payer": None})], base.rows())

    def test_wrong_numbers(self):
        for number in WRONG_NUMBERS:
            with self.subTest(number=number):
                self.fails(BadText, {"line": 0}, read_database, shop(), "row user " + number)
                self.fails(BadText, {"line": 0}, read_database, shop(), f"row cart {number} owner=1")
                self.fails(BadText, {"line": 0}, read_database, shop(), f"row cart 1 owner={number}")
                self.fails(BadText, {"line": 0}, read_database, shop(), f"row cart 1 owner={number} payer=1")

    def test_the_empty_text(self):
        self.assertEqual(Database(shop()), read_database(shop(), ""))

    def test_empty_lines(self):
        self.fails(BadText, {"line": 0}, read_database, shop(), "\n")
        self.fails(BadText, {"line": 1}, read_database, shop(), "row user 1\n")
        self.fails(BadText, {"line": 0}, read_database, shop(), "\nrow user 1")
        self.fails(BadText, {"line": 1}, read_database, shop(), "row user 1\n\nrow user 2")

    def test_wrong_lines(self):
        for line in WRONG_LINES:
            with self.subTest(line=line):
                self.fails(BadText, {"line": 0}, read_database, shop(), line)
                self.fails(BadText, {"line": 2}, read_database, shop(), "row user 1\nrow user 2\n" + line + "\nrow\n")

    def test_what_is_no_string(self):
        values = [value for value in odd_values() + odd_numbers() if not isinstance(value, str)]
        for value in values + [["row user 1"], b"row user 1"]:
            with self.subTest(value=value):
                self.fails(BadText, {"line": 0}, read_database, shop(), value)

    def test_strings_of_every_kind(self):
        for value in [value for value in odd_values() if isinstance(value, str) and value != ""]:
            with self.subTest(value=value):
                self.fails(BadText, {"line": 0}, read_database, shop(), value)

    def test_all_lines_are_looked_at_first(self):
        self.fails(BadText, {"line": 2}, read_database, shop(), "row x 1\nrow cart 1 id=1\nrow user\nrow")

    def test_errors_of_insert(self):
        self.fails(NoTable, {"table": "x"}, read_database, shop(), "row user 1\nrow x 1")
        self.fails(NoTable, {"table": "id"}, read_database, shop(), "row id 1")
        self.fails(Taken, {"table": "user", "row": -1}, read_database, shop(), "row user -1\nrow cart -1 owner=1\nrow user -1")
        self.fails(NoColumn, {"column": "id"}, read_database, shop(), "row user 1 id=1")
        self.fails(NoColumn, {"column": "a"}, read_database, shop(), "row cart 1 z=1 owner=1 a=1")
        self.fails(BadValue, {"column": "owner"}, read_database, shop(), "row cart 1")
        self.fails(BadValue, {"column": "owner"}, read_database, shop(), "row cart 1 payer=1 owner=null")

    def test_errors_of_insert_come_line_by_line(self):
        self.fails(BadValue, {"column": "owner"}, read_database, shop(), "row user 1\nrow cart 1\nrow x 1\nrow user 1")
        self.fails(Taken, {"table": "user", "row": 1}, read_database, shop(), "row user 1\nrow user 1 x=1\nrow x 1")

    def test_400_and_401_rows(self):
        lines = [f"row user {row}" for row in range(401)]
        self.assertEqual(400, len(read_database(shop(), "\n".join(lines[:400]))))
        self.fails(Full, {"most": 400}, read_database, shop(), "\n".join(lines))
        self.fails(Taken, {"table": "user", "row": 5}, read_database, shop(), "\n".join(lines[:400] + ["row user 5"]))

    def test_nothing_to_undo(self):
        self.fails(NothingToUndo, {}, read_database(shop(), "row user 1\nrow user 2").undo)

    def test_tables_and_columns_with_the_names_of_words(self):
        schema = read_schema("table row\ncolumn null null row:cascade\ncolumn row null\ntable id")
        base = read_database(schema, "row id 5\nrow row 1 null=null row=null\nrow row 2 row=3 null=1")
        self.assertEqual("row row 1 null=null row=null\nrow row 2 null=1 row=3\nrow id 5", str(base))


if __name__ == "__main__":
    unittest.main()

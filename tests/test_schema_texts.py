"""The texts of schemas [18]: `str` and `read_schema`."""

import unittest

from keyactions.errors import BadAction, BadColumn, BadName, BadTable, BadText, Full, NoTable
from keyactions.schemas import Column, Schema, Table, read_schema
from samples import MANY, SHOP, Case, odd_numbers, odd_values

BIG = "9" * 40

WRONG_WORDS = [
    "", "a", "a:", ":cascade", ":", "a:Cascade", "a:cascades", "a:cascade:", "a:cascade:cascade", "A:cascade",
    "a1:cascade", "abcdefghi:cascade", "a=cascade", "cascade:a", "a :cascade", "a: cascade", "nul", "Null",
    "default", "default:1", "defaults=1", "a:set-null", "a:null", "a:default=1",
]
WRONG_NUMBERS = [
    "", "-", "-0", "00", "01", "-01", "+1", "1.0", "1e3", "0x1", "1_0", " 1", "--1", "1-", "a", "null", "None", "True",
    BIG + "0", "-" + BIG + "0", "0" * 41, "1:a",
]
WRONG_TABLES = [
    "", " ", "table", "table ", " table a", "table  a", "table a ", "Table a", "tables a", "tablea", "table A",
    "table a1", "table abcdefghi", "table 1", "table a:cascade", "table a null", "table a default=1", "row a", "a",
    "table\ta", "table a-b", "name a", "table a b", "columns a", "column",
]
WRONG_COLUMNS = [
    "column", "column ", " column x", "column  x", "column x ", "Column x", "column X", "column x1", "column abcdefghi",
    "columnx", "column x  null", "column x null null", "column x default=1 null", "column x default=1 default=1",
    "column x a:cascade null", "column x a:cascade default=1", "column x null a:cascade default=1", "column x a b",
    "column null:cascade", "column x null:null", "column x: a:cascade", "column x\r",
]


class Writing(Case):
    def test_every_form(self):
        x = Column("x", ("a", "set_null"), ("b", "set_default"), ("c", "cascade"), nullable=True, default=-12)
        y = Column("y", ("c", "set_default"), default=0)
        a = Table("a", x, y, Column("z", nullable=True), ids=(("b", "restrict"), ("c", "no_action")))
        q = Column("q", ("a", "set_default"), nullable=True)
        c = Table("c", Column("x", ("a", "restrict")), q, ids=(("b", "cascade"),))
        self.assertEqual(MANY, str(Schema(a, Table("b"), c)))
        self.assertEqual("table a", str(Schema(Table("a"))))
        self.assertEqual("table a\ncolumn x", str(Schema(Table("a", Column("x")))))

    def test_words_keep_the_order_in_which_references_were_given(self):
        links = [("c", "cascade"), ("a", "restrict"), ("b", "no_action")]
        text = str(Schema(Table("c", Column("z", *links), Column("y", *links[1:])), Table("b"), Table("a")))
        self.assertEqual("table c\ncolumn z c:cascade a:restrict b:no_action\ncolumn y a:restrict b:no_action\n"
                         "table b\ntable a", text)

    def test_numbers(self):
        for number in (0, -1, 10 ** 39, -(10 ** 40) + 1):
            text = str(Schema(Table("a", Column("x", default=number))))
            self.assertEqual(f"table a\ncolumn x default={number}", text)
            self.assertEqual(text, str(read_schema(text)))


class Reading(Case):
    def test_what_is_written_is_read_back(self):
        for text in (SHOP, MANY, "table a", "table id\ntable a id:cascade\ncolumn null null id:set_null a:cascade",
                     "table table\ncolumn table table:cascade\ncolumn default default=5 table:set_default\ncolumn row",
                     f"table a\ncolumn x default={BIG}\ncolumn y default=-{BIG}",
                     "table abcdefgh\ncolumn hgfedcba null default=0 abcdefgh:no_action"):
            schema = read_schema(text)
            self.assertEqual(text, str(schema))
            self.assertEqual(schema, read_schema(text=str(schema)))

    def test_it_reads_what_it_says(self):
        expected = Schema(Table("user"), Table("cart", Column("owner", ("user", "cascade")),
                                               Column("payer", ("user", "restrict"), nullable=True)))
        self.assertEqual(expected, read_schema(SHOP))
        schema = read_schema("table a b:restrict\ncolumn x null default=-3 a:set_null\ntable b")
        self.assertEqual(Schema(Table("a", Column("x", ("a", "set_null"), nullable=True, default=-3),
                                      ids=(("b", "restrict"),)), Table("b")), schema)

    def test_what_is_no_string(self):
        values = [value for value in odd_values() + odd_numbers() if not isinstance(value, str)]
        for value in values + [["table a"], ("table a",), b"table a"]:
            with self.subTest(value=value):
                self.fails(BadText, {"line": 0}, read_schema, value)

    def test_strings_of_every_kind(self):
        for value in [value for value in odd_values() if isinstance(value, str) and value != ""]:
            with self.subTest(value=value):
                self.fails(BadText, {"line": 0}, read_schema, value)

    def test_the_empty_text_has_no_lines(self):
        self.fails(Full, {"most": 5}, read_schema, "")

    def test_empty_lines(self):
        self.fails(BadText, {"line": 0}, read_schema, "\n")
        self.fails(BadText, {"line": 0}, read_schema, "\ntable a")
        self.fails(BadText, {"line": 1}, read_schema, "table a\n")
        self.fails(BadText, {"line": 1}, read_schema, "table a\n\ntable b")
        self.fails(BadText, {"line": 3}, read_schema, "table a\ncolumn x\ntable b\n")

    def test_wrong_lines(self):
        for line in WRONG_TABLES + WRONG_COLUMNS:
            with self.subTest(line=line):
                self.fails(BadText, {"line": 0}, read_schema, line + "\ntable a")
                self.fails(BadText, {"line": 1}, read_schema, "table a\n" + line)
                self.fails(BadText, {"line": 2}, read_schema, "table a\ncolumn y\n" + line + "\ntable\n")

    def test_wrong_words(self):
        for word in WRONG_WORDS:
            with self.subTest(word=word):
                self.fails(BadText, {"line": 0}, read_schema, "table b " + word)
                self.fails(BadText, {"line": 0}, read_schema, "table b a:cascade " + word)
                self.fails(BadText, {"line": 1}, read_schema, "table a\ncolumn x " + word)
                self.fails(BadText, {"line": 1}, read_schema, "table a\ncolumn x null default=2 a:cascade " + word)

    def test_wrong_numbers(self):
        for number in WRONG_NUMBERS:
            with self.subTest(number=number):
                self.fails(BadText, {"line": 1}, read_schema, "table a\ncolumn x default=" + number)
                self.fails(BadText, {"line": 1}, read_schema, f"table a\ncolumn x null default={number} a:cascade")

    def test_right_numbers(self):
        for number in ("0", "1", "-1", "10", "100", "-90", BIG, "-" + BIG, "1" + "0" * 39):
            schema = read_schema("table a\ncolumn x default=" + number)
            self.assertEqual(Schema(Table("a", Column("x", default=int(number)))), schema)

    def test_a_column_ahead_of_all_tables(self):
        self.fails(BadText, {"line": 0}, read_schema, "column x")
        self.fails(BadText, {"line": 0}, read_schema, "column x a:cascade\ntable a")
        self.fails(BadText, {"line": 0}, read_schema, "column x\ntable a\ntable\n")
        self.fails(BadText, {"line": 0}, read_schema, "column id\ncolumn y\ntable a")

    def test_all_lines_are_looked_at_first(self):
        self.fails(BadText, {"line": 3}, read_schema, "table a q:set_null\ncolumn id\ntable a\nx\ny")
        self.fails(BadText, {"line": 6}, read_schema, "\n".join(f"table {name}" for name in "abcdef") + "\ntable")
        self.fails(BadText, {"line": 5}, read_schema, "table a\ncolumn x\ncolumn x\ncolumn x\ncolumn x\ncolumn x d")

    def test_the_column_id(self):
        self.fails(BadName, {"value": "id"}, read_schema, "table a\ncolumn id")
        self.fails(BadName, {"value": "id"}, read_schema, "table a\ncolumn id null default=1 a:set_null")

    def test_errors_of_columns(self):
        self.fails(BadAction, {"value": ("a", "set_null")}, read_schema, "table a\ncolumn x a:set_null")
        self.fails(BadAction, {"value": ("b", "set_default")}, read_schema, "table a\ncolumn x a:cascade b:set_default")
        self.fails(BadColumn, {"name": "x"}, read_schema, "table a\ncolumn x a:cascade a:restrict")
        self.fails(BadColumn, {"name": "x"}, read_schema,
                   "table a\ncolumn x a:cascade b:cascade c:cascade d:cascade e:cascade")

    def test_errors_of_tables(self):
        self.fails(BadAction, {"value": ("b", "set_null")}, read_schema, "table a b:set_null\ntable b")
        self.fails(BadTable, {"name": "a"}, read_schema, "table a a:cascade")
        self.fails(BadTable, {"name": "a"}, read_schema, "table a b:cascade b:cascade\ntable b")
        self.fails(BadTable, {"name": "a"}, read_schema, "table a b:cascade c:cascade d:cascade e:cascade f:cascade")
        self.fails(BadTable, {"name": "a"}, read_schema, "table a\ncolumn x\ncolumn x")
        self.fails(BadTable, {"name": "a"}, read_schema, "table a\ncolumn x\ncolumn y\ncolumn z\ncolumn w")

    def test_errors_of_schemas(self):
        self.fails(BadTable, {"name": "a"}, read_schema, "table a\ntable a")
        self.fails(NoTable, {"table": "b"}, read_schema, "table a b:cascade")
        self.fails(NoTable, {"table": "b"}, read_schema, "table a\ncolumn x a:cascade b:cascade")
        self.fails(Full, {"most": 5}, read_schema, "\n".join(f"table {name}" for name in "abcdef"))
        lines = [f"column {name} a:cascade b:cascade c:cascade d:cascade" for name in "xyz"]
        self.fails(Full, {"most": 10}, read_schema, "\n".join(["table a", *lines, "table b", "table c", "table d"]))

    def test_table_by_table_its_columns_first(self):
        self.fails(BadName, {"value": "id"}, read_schema, "table a a:cascade\ncolumn id\ntable b b:cascade")
        self.fails(BadTable, {"name": "a"}, read_schema, "table a a:cascade\ncolumn x\ntable b\ncolumn id")
        self.fails(BadColumn, {"name": "x"}, read_schema, "table a b:set_null\ncolumn x a:cascade a:cascade\ncolumn id")
        self.fails(BadTable, {"name": "b"}, read_schema, "table a q:cascade\ntable a\ntable b b:cascade")

    def test_lines_may_be_many(self):
        text = "\n".join(["table a"] * 2000)
        self.fails(BadTable, {"name": "a"}, read_schema, text)
        self.fails(BadText, {"line": 2000}, read_schema, text + "\ntables")


if __name__ == "__main__":
    unittest.main()

"""The console: each kind of line, and what is no line [2, 4, 18]."""

import itertools
import random

from keyactions.conflicts import conflicts
from keyactions.console import Console
from keyactions.databases import Database, read_database
from keyactions.errors import BadCommand, BadValue, Full, NoColumn, NoRow, NothingToUndo, NotValid, NoTable, Refused, Taken
from keyactions.schemas import read_schema
from samples import Case, odd_numbers, odd_values, shop
from test_deletes import random_delete

BIG = 10 ** 40 - 1


def free():
    """The order-free schema of the document's examples."""
    return shop().changed(("cart", "payer", "user"), "set_null")


def told(*lines, schema=None):
    """A console that was told some lines."""
    console = Console(shop() if schema is None else schema)
    for line in lines:
        console.say(line)
    return console


def stocked():
    return told("insert user 1", "insert user 2", "insert cart 7 owner=1 payer=2", "insert cart 8 owner=2", "insert cart 9 owner=1 payer=1")


STOCK = "row user 1; row user 2; row cart 7 owner=1 payer=2; row cart 8 owner=2 payer=null; row cart 9 owner=1 payer=1"


class Right(Case):
    def test_the_document(self):
        console = Console(free())
        self.assertEqual(["ok", "ok", "-", "0"], [console.say(line) for line in (
            "insert user 1", "insert cart 7 owner=1 payer=1", "faults", "conflicts")])
        self.assertEqual(["2", "ok", "row user 1; row cart 7 owner=1 payer=1"],
                         [console.say(line) for line in ("delete user 1", "undo", "show")])

    def test_insert(self):
        console = told("insert user 1")
        self.assertEqual("ok", console.say("insert cart 7 payer=null owner=1"))
        self.assertEqual("ok", console.say("insert cart -8 owner=-3"))
        self.assertEqual("ok", console.say(f"insert cart {BIG} owner=-{BIG} payer={BIG}"))
        self.assertEqual("ok", console.say(line="insert cart 0 owner=0 payer=0"))
        self.assertEqual("row user 1; row cart -8 owner=-3 payer=null; row cart 0 owner=0 payer=0; "
                         f"row cart 7 owner=1 payer=null; row cart {BIG} owner=-{BIG} payer={BIG}", console.say("show"))

    def test_columns_that_are_left_out(self):
        console = told("insert b 1", "insert b 2 y=null", "insert b 3 x=4 y=5",
                       schema=read_schema("table b\ncolumn x default=-2\ncolumn y null"))
        self.assertEqual("row b 1 x=-2 y=null; row b 2 x=-2 y=null; row b 3 x=4 y=5", console.say("show"))

    def test_delete(self):
        console = stocked()
        self.assertEqual("1", console.say("delete cart 8"))
        self.assertEqual("3", console.say("delete user 1"))
        self.assertEqual("row user 2", console.say("show"))
        self.assertEqual("1", console.say("delete user 2"))
        self.assertEqual("-", console.say("show"))

    def test_delete_some_rows(self):
        self.assertEqual("3", stocked().say("delete cart 9 7 8"))
        self.assertEqual("5", stocked().say("delete user 2 1"))
        console = told(f"insert user -{BIG}", "insert user 0", "insert user 10")
        self.assertEqual("3", console.say(f"delete user 10 -{BIG} 0"))

    def test_delete_fires_the_first_pending_event_each_time(self):
        schema = read_schema("table z\ntable b z:cascade\ntable c\ncolumn x null z:set_null b:restrict")
        console = told("insert z 1", "insert b 1", "insert c 1 x=1", schema=schema)
        self.fails(Refused, {"cause": ("c", "x", "b", 1)}, console.say, "delete z 1")
        schema = read_schema("table z\ntable y z:cascade\ntable c\ncolumn x null z:restrict y:set_null")
        console = told("insert z 1", "insert y 1", "insert c 1 x=1", schema=schema)
        self.fails(Refused, {"cause": ("c", "x", "z", 1)}, console.say, "delete z 1")
        self.assertEqual("3", stocked().say("delete user 1"))

    def test_undo(self):
        console = stocked()
        self.assertEqual("3", console.say("delete user 1"))
        self.assertEqual("1", console.say("delete cart 8"))
        self.assertEqual("ok", console.say("undo"))
        self.assertEqual("ok", console.say("undo"))
        self.assertEqual(STOCK, console.say("show"))
        for left in range(5, 0, -1):
            self.assertEqual(left, len(console.say("show").split("; ")))
            self.assertEqual("ok", console.say("undo"))
        self.assertEqual("-", console.say("show"))
        self.fails(NothingToUndo, {}, console.say, "undo")
        self.fails(NothingToUndo, {}, console.say, "undo")
        self.assertEqual("ok", console.say("insert user 1"))
        self.assertEqual("row user 1", console.say("show"))

    def test_rows(self):
        console = told("insert user 10", "insert user 9", "insert user -3", "insert user 0")
        self.assertEqual("-3 0 9 10", console.say("rows user"))
        self.assertEqual("-", console.say("rows cart"))
        console.say("insert cart 5 owner=1")
        self.assertEqual("5", console.say("rows cart"))

    def test_faults(self):
        console = told("insert user 1", "insert cart 7 owner=5", "insert cart 6 owner=1 payer=3", "insert cart -8 owner=1")
        self.assertEqual("cart 6 payer user; cart 7 owner user", console.say("faults"))
        console.say("insert user 3")
        self.assertEqual("cart 7 owner user", console.say("faults"))
        console.say("insert user 5")
        self.assertEqual("-", console.say("faults"))

    def test_faults_of_defaults(self):
        schema = read_schema("table a b:restrict\ncolumn x default=4 a:cascade b:no_action\ntable b")
        console = told("insert a -1", schema=schema)
        self.assertEqual("a null x a; a null x b; a -1 id b; a -1 x a; a -1 x b", console.say("faults"))
        self.assertEqual("a null x a; a null x b", Console(schema).say("faults"))

    def test_conflicts(self):
        self.assertEqual("1", Console(shop()).say("conflicts"))
        self.assertEqual("0", Console(free()).say("conflicts"))
        text = "table a\ntable b\ncolumn x a:cascade\ncolumn y a:restrict\ncolumn z a:restrict\ntable c\ncolumn x b:cascade\ncolumn y b:restrict"
        schema = read_schema(text)
        self.assertEqual(str(len(conflicts(schema))), Console(schema).say("conflicts"))
        self.assertEqual("4", Console(schema).say("conflicts"))
        self.assertEqual("1", stocked().say("conflicts"))

    def test_show(self):
        console = Console(schema=shop())
        self.assertEqual("-", console.say("show"))
        console.say("insert cart 7 owner=1")
        self.assertEqual("row cart 7 owner=1 payer=null", console.say("show"))
        console.say("insert user 3")
        self.assertEqual("row user 3; row cart 7 owner=1 payer=null", console.say("show"))
        self.assertEqual(STOCK, stocked().say("show"))

    def test_names_of_all_kinds(self):
        schema = read_schema("table id\ntable show\ncolumn rows id:cascade\ncolumn null null\ntable abcdefgh\ncolumn hgfedcba")
        console = told("insert id 1", "insert show 2 rows=1 null=null", "insert abcdefgh 3 hgfedcba=0", schema=schema)
        self.assertEqual("row id 1; row show 2 rows=1 null=null; row abcdefgh 3 hgfedcba=0", console.say("show"))
        self.assertEqual("2", console.say("rows show"))
        self.assertEqual("2", console.say("delete id 1"))

    def test_answers_are_strings(self):
        console = stocked()
        for line in ("insert user 3", "faults", "conflicts", "rows user", "rows cart", "show", "delete user 3", "undo"):
            self.assertIs(str, console.say(line).__class__)

    def test_two_consoles_share_nothing(self):
        schema = shop()
        one, other = Console(schema), Console(schema)
        one.say("insert user 1")
        self.assertEqual(["row user 1", "-"], [one.say("show"), other.say("show")])
        self.fails(NothingToUndo, {}, other.say, "undo")
        self.assertEqual(shop(), schema)

    def test_against_databases(self):
        chance = random.Random(60)
        done = refused = 0
        while done < 60 or refused < 20:
            base, table, ids, _ = random_delete(chance)
            console = Console(base.schema)
            lines = str(base).split("\n")
            chance.shuffle(lines)
            for line in lines:
                self.assertEqual("ok", console.say(line.replace("row ", "insert ", 1)))
            self.assertEqual(str(base).replace("\n", "; "), console.say("show"))
            line = " ".join(["delete", table, *map(str, ids)])
            before = len(base)
            try:
                base.delete(table, ids)
            except Refused as error:
                refused += 1
                self.fails(Refused, {"cause": error.cause}, console.say, line)
            else:
                done += 1
                self.assertEqual(str(before - len(base)), console.say(line))
            self.assertEqual(str(base).replace("\n", "; ") or "-", console.say("show"))
            for name in base.schema.tables():
                self.assertEqual(" ".join(map(str, base.ids(name))) or "-", console.say("rows " + name))
            self.assertEqual("-", console.say("faults"))
            self.assertEqual(str(len(conflicts(base.schema))), console.say("conflicts"))


class Wrong(Case):
    def no(self, line, schema=None):
        """The line is no command, and changes nothing."""
        console = stocked() if schema is None else Console(schema)
        before = console.say("show")
        self.fails(BadCommand, {}, console.say, line)
        self.assertEqual(before, console.say("show"))
        if schema is None:
            self.assertEqual("ok", console.say("undo"))
            self.assertEqual(STOCK.rsplit("; ", 1)[0], console.say("show"))

    def test_words_missing_or_too_many(self):
        for line in ("", "insert", "insert user", "delete", "delete user", "rows", "undo 1", "undo undo", "rows user cart",
                     "rows user 1", "faults user", "faults -", "conflicts user", "show user", "show show", "show 1",
                     "insert user 3 4", "insert cart 3 owner", "insert cart 3 owner=1 payer", "insert 3", "insert 3 user",
                     "delete 1", "delete 1 user", "delete user 1 cart", "delete user 1 cart 7", "delete user 1 owner=1"):
            self.no(line)

    def test_words_that_are_none(self):
        for line in ("Insert user 3", "INSERT user 3", "inserts user 3", "row user 3", "remove user 1", "del user 1", "redo", "undo.",
                     "ids user", "rows, user", "fault", "conflict", "shows", "text", "-", "ok", "user", "1", "help", "trial",
                     "say show", "copy", "walk", "record cart 7", "is_valid", "commit", "None", "null", "id"):
            self.no(line)

    def test_spaces(self):
        lines = ("insert user 3", "insert cart 3 owner=1 payer=2", "delete user 1", "delete cart 7 8", "undo", "rows user",
                 "faults", "conflicts", "show")
        for line in lines:
            for wrong in (" " + line, line + " ", line.replace(" ", "  ", 1) + " " * (" " not in line), "  " + line, line + "\n",
                          "\n" + line, line.replace(" ", "\n", 1) + "\n" * (" " not in line), line + "\n" + line, line + ";",
                          line.replace(" ", "\t", 1) + "\t" * (" " not in line), line + "; " + line):
                self.no(wrong)
        self.no("insert cart 3 owner=1  payer=2")
        self.no("insert cart 3 owner =1")
        self.no("insert cart 3 owner= 1")
        self.no("delete cart 7  8")
        self.no(" ")
        self.no("  ")
        self.no("\n")

    def test_numbers(self):
        wrong = ["01", "00", "-0", "-01", "--1", "+1", "-", "", "1.0", "1e3", "0x1", "1_0", "1-", " 1", "1,", "null", "None", "True", "x", "one",
                 "1" * 41, "-" + "1" * 41, "1" + "0" * 40, "9" * 500, "0" * 41, "1=1", "1;", "#1", "(1)", "[1]", "1 ", "\n1"]
        for number in wrong:
            self.no(f"insert user {number}")
            self.no(f"insert cart {number} owner=1")
            self.no(f"delete user {number}")
            self.no(f"delete user 1 {number}")
            self.no(f"delete user {number} 1")
            if number != "null":
                self.no(f"insert cart 3 owner={number}")
                self.no(f"insert cart 3 payer={number} owner=1")
                self.no(f"insert cart 3 owner=1 payer={number}")
        self.no("insert user \u0661")
        self.no("insert user \u00b2")

    def test_names(self):
        wrong = ["User", "USER", "user1", "us-er", "us_er", "u.r", "abcdefghi", "u" * 9, "", "1", "-", "user=", "user:", "=", "u,r", "u\n"]
        for name in wrong:
            self.no(f"insert {name} 3")
            self.no(f"insert {name} 3 owner=1")
            self.no(f"delete {name} 1")
            self.no(f"rows {name}")
            self.no(f"insert cart 3 {name}=1")
            self.no(f"insert cart 3 owner=1 {name}=1")
            self.no(f"insert cart 3 {name}")

    def test_values(self):
        for word in ("owner", "owner:1", "owner==1", "owner=1=2", "=1", "=", "owner=", "owner=Null", "owner=NULL", "owner=none",
                     "owner=None", "owner=nul", "owner=nulls", "owner=-", "owner=1,", "owner=\"1\"", "owner=true", "owner=True", "owner=-null"):
            self.no(f"insert cart 3 {word}")
            self.no(f"insert cart 3 payer=1 {word}")
            self.no(f"insert cart 3 {word} payer=1")

    def test_a_column_twice(self):
        for words in itertools.product(["owner=1", "owner=2", "owner=null"], repeat=2):
            self.no("insert cart 3 " + " ".join(words))
            self.no("insert cart 3 payer=1 " + " ".join(words))
        self.no("insert cart 3 owner=1 payer=2 owner=1")
        self.no("insert cart 3 more=1 owner=1 more=1")
        self.no("insert nowhere 3 x=1 x=1")

    def test_an_id_twice(self):
        for line in ("delete cart 7 7", "delete cart 7 8 7", "delete cart 7 7 8", "delete cart 8 7 7", "delete user 77 77", "delete nowhere 1 1",
                     "delete user -3 -3"):
            self.no(line)
        self.assertEqual("2", stocked().say("delete cart 7 9"))
        self.fails(NoRow, {"table": "cart", "row": -7}, stocked().say, "delete cart 7 -7")

    def test_any_value_in_place_of_a_line(self):
        for value in odd_values() + odd_numbers() + [b"show", ["show"], ("show",), {"show": 1}, "show" * 5000, "show " * 4000,
                                                     "insert user 3".split(" "), Console(shop()), "-", " show", "a" * 20000]:
            with self.subTest(value=value):
                self.no(value)

    def test_ahead_of_all_errors_of_the_methods(self):
        for line in ("insert nowhere 3 x", "insert nowhere 03", "insert user 1 x=", "insert cart 7 owner=null more=01", "delete nowhere",
                     "delete nowhere x", "delete user 99 x", "delete nowhere 1 1", "rows nowhere 1", "rows NOWHERE"):
            self.no(line)
        empty = read_schema("table user")
        for line in ("undo 1", "undo ", " undo"):
            self.no(line, empty)


class Errors(Case):
    """As the methods raise."""

    def no(self, error, fields, line):
        console = stocked()
        self.fails(error, fields, console.say, line)
        self.assertEqual(STOCK, console.say("show"))
        self.assertEqual("ok", console.say("undo"))
        self.assertEqual(STOCK.rsplit("; ", 1)[0], console.say("show"))

    def test_insert(self):
        self.no(NoTable, {"table": "users"}, "insert users 1 x=1")
        self.no(NoTable, {"table": "id"}, "insert id 1")
        self.no(Taken, {"table": "cart", "row": 7}, "insert cart 7 more=1")
        self.no(Taken, {"table": "user", "row": 1}, "insert user 1")
        self.no(NoColumn, {"column": "id"}, "insert cart 3 owner=1 id=3")
        self.no(NoColumn, {"column": "a"}, "insert cart 3 zz=1 owner=null a=1")
        self.no(NoColumn, {"column": "owner"}, "insert user 3 owner=1")
        self.no(BadValue, {"column": "owner"}, "insert cart 3 owner=null")
        self.no(BadValue, {"column": "owner"}, "insert cart 3 payer=1")
        self.no(BadValue, {"column": "owner"}, "insert cart 3")

    def test_full(self):
        console = told(*[f"insert user {row}" for row in range(400)])
        self.fails(Full, {"most": 400}, console.say, "insert user 400")
        self.fails(BadCommand, {}, console.say, "insert user 0400")
        self.fails(Taken, {"table": "user", "row": 399}, console.say, "insert user 399")
        self.assertEqual("400", console.say(" ".join(["delete", "user", *map(str, range(400))])))
        self.assertEqual("ok", console.say("undo"))
        self.assertEqual(" ".join(map(str, range(400))), console.say("rows user"))

    def test_delete(self):
        self.no(NoTable, {"table": "users"}, "delete users 1")
        self.no(NoRow, {"table": "user", "row": 3}, "delete user 1 3 4")
        self.no(NoRow, {"table": "cart", "row": BIG}, f"delete cart {BIG}")
        self.no(Refused, {"cause": ("cart", "payer", "user", 2)}, "delete user 2")
        console = told("insert user 1", "insert cart 7 owner=5", "insert cart 6 owner=1 payer=3")
        self.fails(NoRow, {"table": "user", "row": 9}, console.say, "delete user 9")
        self.fails(NotValid, {"fault": ("cart", 6, "payer", "user")}, console.say, "delete cart 6")

    def test_refused_by_a_fault(self):
        console = told("insert a 1", "insert b 5 x=1", schema=read_schema("table a\ntable b\ncolumn x a:no_action"))
        self.fails(Refused, {"cause": ("b", 5, "x", "a")}, console.say, "delete a 1")
        self.assertEqual("row a 1; row b 5 x=1", console.say("show"))
        self.assertEqual("ok", console.say("undo"))
        self.assertEqual("row a 1", console.say("show"))

    def test_rows_and_undo(self):
        self.no(NoTable, {"table": "users"}, "rows users")
        self.no(NoTable, {"table": "id"}, "rows id")
        self.fails(NothingToUndo, {}, Console(shop()).say, "undo")

    def test_a_line_that_is_refused_leaves_nothing_to_undo(self):
        console = told("insert user 1")
        for error, line in ((BadCommand, "show 1"), (Taken, "insert user 1"), (NoTable, "rows x"), (NoRow, "delete user 2")):
            with self.assertRaises(error):
                console.say(line)
        self.assertEqual("ok", console.say("undo"))
        self.fails(NothingToUndo, {}, console.say, "undo")

    def test_lines_that_only_tell_leave_nothing_to_undo(self):
        console = told("insert user 1")
        for line in ("show", "faults", "conflicts", "rows user"):
            console.say(line)
        console.say("undo")
        self.fails(NothingToUndo, {}, console.say, "undo")

    def test_the_text_can_be_read(self):
        console = stocked()
        text = console.say("show").replace("; ", "\n")
        self.assertEqual(5, len(read_database(shop(), text)))
        self.assertEqual(Database(shop()), read_database(shop(), ""))

    def test_methods_stand_in_the_class_itself(self):
        self.assertIn("say", vars(Console))
        self.assertIn("__init__", vars(Console))
        self.assertEqual("keyactions.console", Console.__module__)

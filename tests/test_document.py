"""The examples of the document, word for word."""

import unittest

from keyactions.conflicts import conflicts
from keyactions.databases import Database, read_database
from keyactions.runs import ends, replay
from keyactions.schemas import Column, Schema, Table
from keyactions.worlds import open_tables

SCHEMAS = '''
>>> from keyactions.schemas import Column, Schema, Table, read_schema
>>> cart = Table("cart", Column("owner", ("user", "cascade")), Column("payer", ("user", "restrict"), nullable=True))
>>> shop = Schema(Table("user"), cart)
>>> [shop.columns("cart"), shop.references(action="restrict"), repr(shop)]
[['owner', 'payer'], [('cart', 'payer', 'user')], 'Schema(2 tables, 2 references)']
>>> str(shop.relaxed([("cart", "payer", "user")])).split("\\n")
['table user', 'table cart', 'column owner user:cascade', 'column payer null user:no_action']
>>> read_schema("table a b:restrict\\ntable b\\ntable c\\ncolumn x a:cascade b:no_action").implied()
[('c', 'x', 'b')]
'''

DATABASES = '''
>>> from keyactions.databases import Database
>>> base = Database(shop)
>>> [base.insert("user", 1, {}), base.insert("cart", 7, {"owner": 1, "payer": 2}), base.faults()]
[None, None, [('cart', 7, 'payer', 'user')]]
>>> [base.insert("user", 2, {}), base.is_valid(), base.record("cart", 7), base.copy().delete("user", [1])]
[None, True, {'owner': 1, 'payer': 2}, [('cart', 'owner', 'user', 1), ('cart', 'payer', 'user', 1)]]
>>> base.delete("user", [2])
raises Refused(cause=('cart', 'payer', 'user', 2))
'''

RUNS = '''
>>> from keyactions.runs import ends
>>> ends(base, "user", [1, 2])
[None, Database(0 rows)]
'''

CONFLICTS = '''
>>> from keyactions.conflicts import conflicts
>>> from keyactions.worlds import can_go, open_tables
>>> [open_tables(shop, "user"), open_tables(shop, "cart"), can_go(shop, "cart", ["user", "cart"])]
[['user', 'cart'], ['cart'], ['cart']]
>>> conflicts(shop)
[('user', 'row', ('cart', 'owner', 'user'), ('cart', 'payer', 'user'))]
'''

WITNESSES = '''
>>> from keyactions.witnesses import parts, witness
>>> run = base.copy().delete("user", [1, 2])
>>> [parts(shop, witness(shop)), parts(shop, (base, "user", [1, 2], [("cart", "payer", "user", 2)], run))]
[True, True]
'''

CERTIFICATES = '''
>>> from keyactions.certificates import certificate, certifies
>>> from keyactions.witnesses import parts, witness
>>> run = base.copy().delete("user", [1, 2])
>>> [parts(shop, witness(shop)), parts(shop, (base, "user", [1, 2], [("cart", "payer", "user", 2)], run))]
[True, True]
>>> free = shop.changed(("cart", "payer", "user"), "set_null")
>>> stages = {"user": [["user", "cart"]], "cart": [["user", "cart"], ["cart"]]}
>>> [certifies(free, certificate(free)), certifies(free, stages)]
[True, True]
'''

CHANGES = '''
>>> from keyactions.changes import allowed, fewest_changes
>>> [fewest_changes(shop), allowed(shop, ("cart", "payer", "user"))]
[[('cart', 'owner', 'user')], ['cascade', 'set_null', 'set_default', 'no_action']]
'''

REASONS = '''
>>> from keyactions.databases import read_database
>>> from keyactions.reasons import end_of, reasons
>>> other = read_database(free, str(base))
>>> str(end_of(other, "user", [2])).split("\\n")
['row user 1', 'row cart 7 owner=1 payer=null']
>>> reasons(other, "user", [2]) == {("user", 2): ("deleted",), ("cart", 7, "payer"): ("user", 2)}
True
'''

CONSOLE = '''
>>> from keyactions.console import Console
>>> console = Console(free)
>>> [console.say("insert user 1"), console.say("insert cart 7 owner=1 payer=1"), console.say("faults"), console.say("conflicts")]
['ok', 'ok', '-', '0']
>>> [console.say("delete user 1"), console.say("undo"), console.say("show")]
['2', 'ok', 'row user 1; row cart 7 owner=1 payer=1']
'''


def shown(names, line):
    """What the document shows below a line: the result, or the error with its fields."""
    try:
        if line.startswith("from "):
            return exec(line, names)
        if " = " in line.split("(")[0]:
            return exec(line, names)
        result = eval(line, names)
    except Exception as error:
        fields = ", ".join(f"{name}={value!r}" for name, value in vars(error).items())
        return f"raises {error.__class__.__name__}({fields})"
    return None if result is None else repr(result)


def play(names, text):
    """Runs the lines of an example; gives (line, expected, found) for each."""
    lines = text.strip().split("\n") + [">>> "]
    told = []
    for at, line in enumerate(lines[:-1]):
        if line.startswith(">>> "):
            expected = None if lines[at + 1].startswith(">>> ") else lines[at + 1]
            told.append((line, expected, shown(names, line[4:])))
    return told


class Examples(unittest.TestCase):
    def check(self, text, names):
        for line, expected, found in play(names, text):
            self.assertEqual(expected, found, line)

    def test_schemas(self):
        self.check(SCHEMAS, {})

    def test_databases(self):
        names = {}
        self.check(SCHEMAS, names)
        self.check(DATABASES, names)

    def test_runs(self):
        names = {}
        self.check(SCHEMAS, names)
        self.check(DATABASES, names)
        self.check(RUNS, names)

    def test_worlds_and_conflicts(self):
        names = {}
        self.check(SCHEMAS, names)
        self.check(CONFLICTS, names)

    def test_witnesses(self):
        names = {}
        self.check(SCHEMAS, names)
        self.check(DATABASES, names)
        self.check(RUNS, names)
        self.check(CONFLICTS, names)
        self.check(WITNESSES, names)

    def test_all_in_one_session(self):
        names = {}
        for text in (SCHEMAS, DATABASES, RUNS, CONFLICTS, CERTIFICATES, CHANGES, REASONS, CONSOLE):
            self.check(text, names)

    def test_certificates(self):
        names = {}
        for text in (SCHEMAS, DATABASES, CERTIFICATES):
            self.check(text, names)
        self.assertEqual({"user", "cart"}, set(names["certificate"](names["free"])))

    def test_changes(self):
        names = {}
        for text in (SCHEMAS, CHANGES):
            self.check(text, names)

    def test_reasons_and_the_console(self):
        names = {}
        for text in (SCHEMAS, DATABASES, CERTIFICATES, REASONS):
            self.check(text, names)
        self.check(CONSOLE, {"free": names["free"]})

    def test_a_row_that_goes_earlier(self):
        # Point 11: "the start is `a`; `b.id` references `a` with `no_action`; `t.x` references `a` with `cascade` and `b`
        # with `no_action`; `b.z` references `t` with `cascade`. If row 1 of `a` is deleted, row 5 of `t` with x = 1 goes,
        # then row 1 of `b` with z = 5, and the delete is done. All three tables are open."
        schema = Schema(Table("a"), Table("b", Column("z", ("t", "cascade")), ids=(("a", "no_action"),)),
                        Table("t", Column("x", ("a", "cascade"), ("b", "no_action"))))
        self.assertEqual(["a", "b", "t"], open_tables(schema, "a"))
        base = read_database(schema, "row a 1\nrow b 1 z=5\nrow t 5 x=1")
        events = [("t", "x", "a", 1), ("b", "z", "t", 5), ("b", "id", "a", 1), ("t", "x", "b", 1)]
        self.assertEqual("", str(replay(base, "a", [1], events)))
        self.assertEqual([Database(schema)], ends(base, "a", [1]))
        self.assertEqual([], conflicts(schema))

    def test_the_implied_references_of_the_shop(self):
        names = {}
        self.check(SCHEMAS, names)
        self.assertEqual([], names["shop"].implied())

    def test_the_delete_that_is_refused_changes_nothing(self):
        names = {}
        self.check(SCHEMAS + DATABASES, names)
        self.assertEqual("row user 1\nrow user 2\nrow cart 7 owner=1 payer=2", str(names["base"]))


if __name__ == "__main__":
    unittest.main()

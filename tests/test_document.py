"""The examples of the document, word for word."""

import unittest

SCHEMAS = '''
>>> from keyactions.schemas import Column, Schema, Table, read_schema
>>> cart = Table("cart", Column("owner", ("user", "cascade")), Column("payer", ("user", "restrict"), nullable=True))
>>> shop = Schema(Table("user"), cart)
>>> [shop.columns("cart"), shop.references(action="restrict"), repr(shop)]
[['owner', 'payer'], [('cart', 'payer', 'user')], 'Schema(2 tables, 2 references)']
>>> str(shop.relaxed([("cart", "payer", "user")])).split("\\n")
['table user', 'table cart', 'column owner user:cascade', 'column payer null user:no_action']
>>> read_schema("table a b:restrict\\ntable b\\ntable c\\ncolumn x a:cascade b:no_action").implied()
[('c', 'x', 'b')]
'''

DATABASES = '''
>>> from keyactions.databases import Database
>>> base = Database(shop)
>>> [base.insert("user", 1, {}), base.insert("cart", 7, {"owner": 1, "payer": 2}), base.faults()]
[None, None, [('cart', 7, 'payer', 'user')]]
>>> [base.insert("user", 2, {}), base.is_valid(), base.record("cart", 7), base.copy().delete("user", [1])]
[None, True, {'owner': 1, 'payer': 2}, [('cart', 'owner', 'user', 1), ('cart', 'payer', 'user', 1)]]
>>> base.delete("user", [2])
raises Refused(cause=('cart', 'payer', 'user', 2))
'''


def shown(names, line):
    """What the document shows below a line: the result, or the error with its fields."""
    try:
        if line.startswith("from "):
            return exec(line, names)
        if " = " in line.split("(")[0]:
            return exec(line, names)
        result = eval(line, names)
    except Exception as error:
        fields = ", ".join(f"{name}={value!r}" for name, value in vars(error).items())
        return f"raises {error.__class__.__name__}({fields})"
    return None if result is None else repr(result)


def play(names, text):
    """Runs the lines of an example; gives (line, expected, found) for each."""
    lines = text.strip().split("\n") + [">>> "]
    told = []
    for at, line in enumerate(lines[:-1]):
        if line.startswith(">>> "):
            expected = None if lines[at + 1].startswith(">>> ") else lines[at + 1]
            told.append((line, expected, shown(names, line[4:])))
    return told


class Examples(unittest.TestCase):
    def check(self, text, names):
        for line, expected, found in play(names, text):
            self.assertEqual(expected, found, line)

    def test_schemas(self):
        self.check(SCHEMAS, {})

    def test_databases(self):
        names = {}
        self.check(SCHEMAS, names)
        self.check(DATABASES, names)

    def test_the_implied_references_of_the_shop(self):
        names = {}
        self.check(SCHEMAS, names)
        self.assertEqual([], names["shop"].implied())

    def test_the_delete_that_is_refused_changes_nothing(self):
        names = {}
        self.check(SCHEMAS + DATABASES, names)
        self.assertEqual("row user 1\nrow user 2\nrow cart 7 owner=1 payer=2", str(names["base"]))


if __name__ == "__main__":
    unittest.main()

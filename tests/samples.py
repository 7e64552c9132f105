"""What several test files use: a test case with `fails`, values of every kind, and some schemas."""

import unittest

from keyactions.console import Console
from keyactions.databases import Database, read_database
from keyactions.schemas import Column, Schema, Table, read_schema

ACTIONS = ("cascade", "set_null", "set_default", "restrict", "no_action")

SHOP = "table user\ntable cart\ncolumn owner user:cascade\ncolumn payer null user:restrict"

# Every way to write a line of a schema's text is in here.
MANY = "\n".join([
    "table a b:restrict c:no_action",
    "column x null default=-12 a:set_null b:set_default c:cascade",
    "column y default=0 c:set_default",
    "column z null",
    "table b",
    "table c b:cascade",
    "column x a:restrict",
    "column q null a:set_default",
])


class Case(unittest.TestCase):
    """A test case that can tell which error a call raises."""

    def fails(self, error, fields, function, *args, **named):
        """The call raises just this class of error, with just these values in its fields."""
        try:
            result = function(*args, **named)
        except Exception as caught:
            self.assertIs(error, caught.__class__)
            told = vars(caught)
            self.assertEqual(set(fields), set(told))
            for name in fields:
                self.assertTrue(same(fields[name], told[name]), (fields[name], told[name]))
            return caught
        self.fail(f"no error, but {result!r}")
        return None


def same(one, other):
    """Equal, and True is not 1."""
    if one.__class__ is not other.__class__:
        return False
    if isinstance(one, (list, tuple)):
        return len(one) == len(other) and all(same(a, b) for a, b in zip(one, other))
    if isinstance(one, dict):
        return same(list(one.items()), list(other.items()))
    return one == other


def deep(depth):
    """Lists, tuples and dicts in one another."""
    value = 1
    for level in range(depth):
        value = ([value], (value,), {"x": value})[level % 3]
    return value


def odd_values():
    """Values of every kind, none of which is a name, an integer, or part of the sample schemas."""
    schema = read_schema(SHOP)
    base = Database(schema)
    return [
        None, True, False, "", " ", "A", "a1", "a b", "ab\n", "abcdefghi", "a_b", "a-b", "a" * 20000, "\n",
        [], {}, (), [1], (1,), {1: 2}, {"a": [1, {"b": (None, True)}]}, ["user"], ("user",), {"user": 1},
        [[]], ([],), ({},), ("user", []), ("cart", "payer", []), ("cart", "payer", "user", []),
        ["cart", "payer", "user"], ["cart", "payer", "user", 1], deep(12), [deep(11)] * 50,
        Column("x"), Table("user"), schema, base, [base, schema], (schema,), {"a": base},
        base.rows(), schema.references(), Schema.ACTIONS, Console(schema), base.trial(), [Console(schema)], (base.trial(), 1),
    ]


def odd_numbers():
    """Integers and the like where a name or a reference is asked for."""
    return [0, 1, -1, 2, 10 ** 59, -(10 ** 59)]


def shop():
    """The schema of the document's examples."""
    return read_schema(SHOP)


def stocked():
    """A valid database of `shop` with two users and three carts."""
    return read_database(shop(), "\n".join([
        "row user 1", "row user 2", "row cart 7 owner=1 payer=2", "row cart 8 owner=2 payer=null",
        "row cart 9 owner=1 payer=1",
    ]))

"""The errors: classes, bases and fields."""

import unittest

from keyactions import errors
from samples import odd_numbers, odd_values

CLASSES = {
    ValueError: {
        "BadName": ["value"], "BadAction": ["value"], "BadColumn": ["name"], "BadTable": ["name"],
        "BadValue": ["column"], "BadChoice": ["value"], "BadRun": ["index"], "BadText": ["line"], "BadCommand": [],
    },
    KeyError: {
        "NoTable": ["table"], "NoColumn": ["column"], "NoRow": ["table", "row"], "NoReference": ["reference"],
    },
    LookupError: {"NotValid": ["fault"]},
    RuntimeError: {"Refused": ["cause"], "Taken": ["table", "row"], "NotFree": ["conflict"]},
    IndexError: {"NothingToUndo": []},
    OverflowError: {"Full": ["most"]},
}
FIELDS = {name: fields for classes in CLASSES.values() for name, fields in classes.items()}


class Errors(unittest.TestCase):
    def test_each_class_is_directly_under_its_base(self):
        for base, classes in CLASSES.items():
            for name in classes:
                with self.subTest(name=name):
                    self.assertEqual((base,), getattr(errors, name).__bases__)

    def test_no_class_is_under_another_one(self):
        for one in FIELDS:
            for other in FIELDS:
                under = issubclass(getattr(errors, one), getattr(errors, other))
                self.assertEqual(one == other, under, (one, other))

    def test_each_class_is_defined_in_this_file_and_there_are_no_others(self):
        found = {name for name, thing in vars(errors).items() if isinstance(thing, type)}
        self.assertEqual(set(FIELDS), found)
        for name in FIELDS:
            self.assertEqual("keyactions.errors", getattr(errors, name).__module__)
            self.assertIn("__init__", vars(getattr(errors, name)))

    def test_fields_by_position_and_by_name(self):
        for name, fields in FIELDS.items():
            values = [f"value of {field}" for field in fields]
            for error in (getattr(errors, name)(*values), getattr(errors, name)(**dict(zip(fields, values)))):
                with self.subTest(name=name):
                    self.assertEqual(dict(zip(fields, values)), vars(error))

    def test_fields_may_be_any_values(self):
        for name, fields in FIELDS.items():
            for value in odd_values() + odd_numbers() + [10 ** 5000, "user"]:
                error = getattr(errors, name)(*[value for _ in fields])
                for field in fields:
                    self.assertIs(value, getattr(error, field))
                self.assertIsInstance(str(error), str)
                self.assertIsInstance(repr(error), str)

    def test_the_number_of_arguments(self):
        for name, fields in FIELDS.items():
            with self.subTest(name=name), self.assertRaises(TypeError):
                getattr(errors, name)(*[1 for _ in fields], 1)
            if fields:
                with self.subTest(name=name), self.assertRaises(TypeError):
                    getattr(errors, name)(*[1 for _ in fields[1:]])

    def test_they_are_raised_and_caught_by_their_base(self):
        for base, classes in CLASSES.items():
            for name, fields in classes.items():
                with self.subTest(name=name), self.assertRaises(base):
                    raise getattr(errors, name)(*[1 for _ in fields])


if __name__ == "__main__":
    unittest.main()

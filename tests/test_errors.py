"""Point [18]: the refusals and what each of them tells."""

import unittest

from twigtable import errors
from twigtable.errors import TableError

# Each class with the names of the values that it is made of, in their order.
REFUSALS = {
    "BadKey": (),
    "BadValue": (),
    "BadWord": (),
    "BadElders": (),
    "BadText": (),
    "BadRow": (),
    "Unsaved": (),
    "NotRising": ("key",),
    "NoRow": ("key",),
    "Unfit": ("key",),
    "NoColumn": ("column",),
    "ColumnThere": ("column",),
    "NoClash": ("key", "column"),
    "NoPage": ("number",),
    "NoMake": ("number",),
    "NotBroken": ("number",),
    "NoName": ("word",),
    "InUse": ("word",),
}
VALUES = {"key": (5, -3, "a b"), "column": ("cost", 7), "number": (0, 12), "word": ("main", None)}


class Errors(unittest.TestCase):
    def test_there_are_just_these_eighteen(self):
        found = [
            name
            for name, thing in vars(errors).items()
            if isinstance(thing, type) and thing is not TableError
        ]
        self.assertEqual(len(REFUSALS), 18)
        self.assertEqual(sorted(found), sorted(REFUSALS))

    def test_table_error_stands_under_value_error(self):
        self.assertEqual(TableError.__bases__, (ValueError,))

    def test_each_stands_straight_under_table_error(self):
        for name in REFUSALS:
            with self.subTest(name):
                self.assertEqual(getattr(errors, name).__bases__, (TableError,))

    def test_none_is_taken_as_another_one(self):
        for name, values in REFUSALS.items():
            error = getattr(errors, name)(*[VALUES[value][0] for value in values])
            for other in REFUSALS:
                with self.subTest(name, other=other):
                    self.assertEqual(isinstance(error, getattr(errors, other)), name == other)

    def test_each_tells_its_values(self):
        for name, values in REFUSALS.items():
            for turn in range(2):
                told = [VALUES[value][turn] for value in values]
                with self.subTest(name, told=told):
                    error = getattr(errors, name)(*told)
                    self.assertEqual([getattr(error, value) for value in values], told)

    def test_values_are_handed_in_by_name_too(self):
        for name, values in REFUSALS.items():
            with self.subTest(name):
                named = {value: VALUES[value][-1] for value in values}
                error = getattr(errors, name)(**named)
                self.assertEqual({value: getattr(error, value) for value in values}, named)

    def test_two_errors_of_a_class_have_nothing_to_do_with_one_another(self):
        one = errors.NoClash(1, "a")
        other = errors.NoClash(2, "b")
        self.assertEqual((one.key, one.column, other.key, other.column), (1, "a", 2, "b"))

    def test_each_is_raised_and_taken_as_a_refusal(self):
        for name, values in REFUSALS.items():
            with self.subTest(name):
                with self.assertRaises(TableError):
                    raise getattr(errors, name)(*[VALUES[value][0] for value in values])


if __name__ == "__main__":
    unittest.main()

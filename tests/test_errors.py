"""Section 22, and section 2 as far as it speaks of errors."""

import inspect
import unittest

from helper import any_values
from wishshelves import errors
from wishshelves.errors import ShelfError

VALUE = (
    "BadFields NoFolder NoMark NoField BadKey BadLaid BadWord BadText BadName BadSearch BadMove BadNames BadItem "
    "BadPlace NoShelf NoMove NoEntry NoWatch NoVow NoLine NotAllowed Taken Undone").split()

KEPT_UNDER = {name: ("value",) for name in VALUE} | {
    "BadValue": ("name", "value"), "BadRing": ("ring",), "InUse": ("users",), "Broken": ("name", "value", "run"),
    "TooLong": ("most",), "TooMany": ("most",), "BadLine": ("number",),
    "OtherFields": (), "NothingToUndo": (), "NothingToRedo": (), "Amid": ()}


class ErrorsTest(unittest.TestCase):
    def test_each_error_stands_directly_below_shelf_error(self):
        for name in KEPT_UNDER:
            self.assertEqual(getattr(errors, name).__bases__, (ShelfError,), name)

    def test_shelf_error_stands_directly_below_value_error(self):
        self.assertEqual(ShelfError.__bases__, (ValueError,))

    def test_there_are_no_other_errors(self):
        told = [name for name, one in vars(errors).items() if inspect.isclass(one)]
        self.assertEqual(sorted(told), sorted([*KEPT_UNDER, "ShelfError"]))

    def test_arguments_by_position(self):
        for name, attributes in KEPT_UNDER.items():
            values = [object() for one in attributes]
            error = getattr(errors, name)(*values)
            for attribute, value in zip(attributes, values):
                self.assertIs(getattr(error, attribute), value, name)

    def test_arguments_by_name(self):
        for name, attributes in KEPT_UNDER.items():
            values = {one: object() for one in reversed(attributes)}
            error = getattr(errors, name)(**values)
            for attribute in attributes:
                self.assertIs(getattr(error, attribute), values[attribute], name)

    def test_any_values(self):
        for name, attributes in KEPT_UNDER.items():
            for value in any_values():
                error = getattr(errors, name)(*[value for one in attributes])
                for attribute in attributes:
                    self.assertIs(getattr(error, attribute), value, name)

    def test_an_error_keeps_nothing_else(self):
        for name, attributes in KEPT_UNDER.items():
            error = getattr(errors, name)(*[1 for one in attributes])
            self.assertEqual(tuple(vars(error)), attributes, name)

    def test_raised_errors_are_caught_as_shelf_error_and_value_error(self):
        for name, attributes in KEPT_UNDER.items():
            for above in (ShelfError, ValueError):
                with self.assertRaises(above):
                    raise getattr(errors, name)(*[1 for one in attributes])


if __name__ == "__main__":
    unittest.main()

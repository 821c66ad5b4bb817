"""The interface of the document: its names and arguments, each defined in the file under which it is listed."""

import ast
import inspect
import unittest

from helper import FIELDS
from wishshelves import errors, fields, items, searches

FUNCTIONS = {
    (searches, "at"): ["path"], (searches, "below"): ["path"], (searches, "marked"): ["name"],
    (searches, "least"): ["name", "number"], (searches, "most"): ["name", "number"], (searches, "filled"): ["name"],
    (searches, "said"): ["name", "word"], (searches, "shelf"): ["name"], (searches, "everything"): [],
    (searches, "nothing"): []}

METHODS = {
    (fields.Fields, "made"): ["self", "folder", "*marks", "**values"], (fields.Fields, "item_of"): ["self", "key"],
    (items.Item, "apart"): ["self", "other"], (items.Item, "laid"): ["self", "pairs"],
    (searches.Search, "__call__"): ["self", "item", "shelves=None"]}

ATTRIBUTES = (
    (FIELDS, ("folders", "marks", "numbers", "kinds", "names", "many")),
    (FIELDS.made("in"), ("fields", "key", "folder", "marks")),
    (searches.at("in") & "x", ("parts", "shelves", "many")))


def defined_in(module):
    """Return the names that a file defines by def and class."""
    tree = ast.parse(inspect.getsource(module))
    return [one.name for one in tree.body if isinstance(one, (ast.FunctionDef, ast.ClassDef))]


def arguments_of(function):
    """Return the parameters of a function as they are written."""
    return [str(one) for one in inspect.signature(function).parameters.values()]


class InterfaceTest(unittest.TestCase):
    def test_functions(self):
        for (module, name), arguments in FUNCTIONS.items():
            self.assertIn(name, defined_in(module))
            self.assertEqual(arguments_of(getattr(module, name)), arguments, name)

    def test_methods_stand_in_their_classes(self):
        for (one, name), arguments in METHODS.items():
            self.assertIn(name, vars(one))
            self.assertEqual(arguments_of(vars(one)[name]), arguments, name)

    def test_classes(self):
        for module, name in ((fields, "Fields"), (items, "Item"), (searches, "Search"), (errors, "ShelfError")):
            self.assertIn(name, defined_in(module))
        self.assertEqual(arguments_of(fields.Fields), ["folders", "marks=()", "numbers=()", "kinds=()"])
        kinds = [one.kind for one in inspect.signature(fields.Fields).parameters.values()]
        self.assertEqual(kinds[1:], [inspect.Parameter.KEYWORD_ONLY] * 3)

    def test_attributes_are_set_on_each_object(self):
        for one, names in ATTRIBUTES:
            for name in names:
                self.assertIn(name, vars(one))


if __name__ == "__main__":
    unittest.main()

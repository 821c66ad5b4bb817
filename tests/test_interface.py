"""The interface of the document: its names and arguments, each defined in the file under which it is listed."""

import ast
import inspect
import unittest

from helper import FIELDS
from wishshelves import (
    errors, fields, groups, items, looks, moves, searches, searchtexts, shelves, ways)

FUNCTIONS = {
    (searches, "at"): ["path"], (searches, "below"): ["path"], (searches, "marked"): ["name"],
    (searches, "least"): ["name", "number"], (searches, "most"): ["name", "number"], (searches, "filled"): ["name"],
    (searches, "said"): ["name", "word"], (searches, "shelf"): ["name"], (searches, "everything"): [],
    (searches, "nothing"): [], (searchtexts, "show_search"): ["search"], (searchtexts, "read_search"): ["text"],
    (looks, "alike"): ["shelves", "one", "other"], (looks, "same_shelves"): ["shelves"],
    (looks, "parting"): ["shelves", "names"], (looks, "spare"): ["shelves", "search"],
    (moves, "after"): ["shelves", "name", "group"], (moves, "before"): ["shelves", "name", "group"],
    (moves, "tried"): ["shelves", "name", "group"], (ways, "reach"): ["shelves", "group", "only=None"],
    (ways, "back"): ["shelves", "group", "only=None"], (ways, "lasting"): ["shelves", "group", "only=None"],
    (ways, "can"): ["shelves", "a", "b", "only=None"], (ways, "shows_can"): ["shelves", "a", "b", "value", "only=None"],
    (ways, "all_can"): ["shelves", "a", "b", "only=None"],
    (ways, "shows_all_can"): ["shelves", "a", "b", "value", "only=None"]}

METHODS = {
    (fields.Fields, "made"): ["self", "folder", "*marks", "**values"], (fields.Fields, "item_of"): ["self", "key"],
    (fields.Fields, "group"): ["self", "search", "shelves=None"],
    (groups.Group, "each"): ["self"], (groups.Group, "apart"): ["self", "other"], (groups.Group, "matters"): ["self"],
    (shelves.Shelves, "used_by"): ["self", "name"], (shelves.Shelves, "drop"): ["self", "name"],
    (shelves.Shelves, "rename"): ["self", "old", "new"], (shelves.Shelves, "group"): ["self", "search"],
    (shelves.Shelves, "copy"): ["self"], (shelves.Shelves, "set_move"): ["self", "name", "move"],
    (shelves.Shelves, "move"): ["self", "name"], (shelves.Shelves, "drop_move"): ["self", "name"],
    (shelves.Shelves, "laid"): ["self", "name"], (shelves.Shelves, "moved"): ["self", "name", "item"],
    (items.Item, "apart"): ["self", "other"], (items.Item, "laid"): ["self", "pairs"],
    (searches.Search, "__call__"): ["self", "item", "shelves=None"]}

ATTRIBUTES = (
    (FIELDS, ("folders", "marks", "numbers", "kinds", "names", "many", "everything", "nothing")),
    (FIELDS.everything, ("fields", "many", "least", "table")),
    (FIELDS.group(searches.at("in")), ("fields", "many", "least", "table")),
    (shelves.Shelves(FIELDS), ("names", "fields", "move_names")),
    (moves.Move(searches.at("in")), ("search", "to", "on", "off", "sets")),
    (FIELDS.made("in"), ("fields", "key", "folder", "marks")),
    (searches.at("in") & "x", ("parts", "shelves", "many")))


def defined_in(module):
    """Return the names that a file defines by def and class."""
    tree = ast.parse(inspect.getsource(module))
    return [one.name for one in tree.body if isinstance(one, (ast.FunctionDef, ast.ClassDef))]


def arguments_of(function):
    """Return the parameters of a function as they are written."""
    return [str(one) for one in inspect.signature(function).parameters.values()]


class InterfaceTest(unittest.TestCase):
    def test_functions(self):
        for (module, name), arguments in FUNCTIONS.items():
            self.assertIn(name, defined_in(module))
            self.assertEqual(arguments_of(getattr(module, name)), arguments, name)

    def test_methods_stand_in_their_classes(self):
        for (one, name), arguments in METHODS.items():
            self.assertIn(name, vars(one))
            self.assertEqual(arguments_of(vars(one)[name]), arguments, name)

    def test_classes(self):
        for module, name in (
                (fields, "Fields"), (items, "Item"), (searches, "Search"), (errors, "ShelfError"), (groups, "Group"),
                (shelves, "Shelves"), (moves, "Move")):
            self.assertIn(name, defined_in(module))
        self.assertEqual(arguments_of(shelves.Shelves), ["fields"])
        self.assertEqual(arguments_of(moves.Move), ["search", "to=None", "on=()", "off=()", "sets=()"])
        self.assertEqual(arguments_of(fields.Fields), ["folders", "marks=()", "numbers=()", "kinds=()"])
        kinds = [one.kind for one in inspect.signature(fields.Fields).parameters.values()]
        self.assertEqual(kinds[1:], [inspect.Parameter.KEYWORD_ONLY] * 3)

    def test_what_is_told_by_name_only(self):
        for function, names in (
                (moves.Move, ("to", "on", "off", "sets")), (ways.reach, ("only",)), (ways.back, ("only",)),
                (ways.lasting, ("only",)), (ways.can, ("only",)), (ways.shows_can, ("only",)),
                (ways.all_can, ("only",)), (ways.shows_all_can, ("only",))):
            kinds = inspect.signature(function).parameters
            told = tuple(name for name in kinds if kinds[name].kind == inspect.Parameter.KEYWORD_ONLY)
            self.assertEqual(told, names)

    def test_attributes_are_set_on_each_object(self):
        for one, names in ATTRIBUTES:
            for name in names:
                self.assertIn(name, vars(one))


if __name__ == "__main__":
    unittest.main()

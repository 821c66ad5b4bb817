"""The interface of the document: its names and arguments, each defined in the file under which it is listed."""

import ast
import inspect
import unittest

from helper import FIELDS
from wishshelves import (
    desk, effects, entries, errors, fields, groups, items, journals, looks, moves, nearest, recipes, room, searches,
    searchtexts, shelves, texts, ways)

FUNCTIONS = {
    (searches, "at"): ["path"], (searches, "below"): ["path"], (searches, "marked"): ["name"],
    (searches, "least"): ["name", "number"], (searches, "most"): ["name", "number"], (searches, "filled"): ["name"],
    (searches, "said"): ["name", "word"], (searches, "shelf"): ["name"], (searches, "everything"): [],
    (searches, "nothing"): [], (searchtexts, "show_search"): ["search"], (searchtexts, "read_search"): ["text"],
    (looks, "alike"): ["shelves", "one", "other"], (looks, "same_shelves"): ["shelves"],
    (looks, "parting"): ["shelves", "names"], (looks, "spare"): ["shelves", "search"],
    (moves, "after"): ["shelves", "name", "group"], (moves, "before"): ["shelves", "name", "group"],
    (moves, "tried"): ["shelves", "name", "group"], (ways, "reach"): ["shelves", "group", "only=None"],
    (ways, "back"): ["shelves", "group", "only=None"], (ways, "lasting"): ["shelves", "group", "only=None"],
    (ways, "can"): ["shelves", "a", "b", "only=None"], (ways, "shows_can"): ["shelves", "a", "b", "value", "only=None"],
    (ways, "all_can"): ["shelves", "a", "b", "only=None"],
    (ways, "shows_all_can"): ["shelves", "a", "b", "value", "only=None"],
    (recipes, "recipe"): ["shelves", "a", "b", "only=None"],
    (recipes, "shows_recipe"): ["shelves", "a", "b", "value", "only=None"],
    (effects, "effects"): ["shelves", "only=None"], (effects, "alike_moves"): ["one", "other", "only=None"],
    (nearest, "nearest"): ["item", "group", "locked=()"],
    (texts, "show_item"): ["item"], (texts, "read_item"): ["fields", "text"], (texts, "show_fields"): ["fields"],
    (texts, "read_fields"): ["text"], (texts, "show_shelves"): ["shelves"], (texts, "read_shelves"): ["text"],
    (journals, "read_journal"): ["text"]}

METHODS = {
    (fields.Fields, "made"): ["self", "folder", "*marks", "**values"], (fields.Fields, "item_of"): ["self", "key"],
    (fields.Fields, "group"): ["self", "search", "shelves=None"],
    (groups.Group, "each"): ["self"], (groups.Group, "apart"): ["self", "other"], (groups.Group, "matters"): ["self"],
    (shelves.Shelves, "used_by"): ["self", "name"], (shelves.Shelves, "drop"): ["self", "name"],
    (shelves.Shelves, "rename"): ["self", "old", "new"], (shelves.Shelves, "group"): ["self", "search"],
    (shelves.Shelves, "copy"): ["self"], (shelves.Shelves, "set_move"): ["self", "name", "move"],
    (shelves.Shelves, "move"): ["self", "name"], (shelves.Shelves, "drop_move"): ["self", "name"],
    (shelves.Shelves, "laid"): ["self", "name"], (shelves.Shelves, "moved"): ["self", "name", "item"],
    (items.Item, "apart"): ["self", "other"], (items.Item, "laid"): ["self", "pairs"],
    (searches.Search, "__call__"): ["self", "item", "shelves=None"],
    (room.Room, "kept"): ["self"], (room.Room, "journal"): ["self"], (room.Room, "add"): ["self", "item"],
    (room.Room, "take_out"): ["self", "number"], (room.Room, "move_entry"): ["self", "number", "name"],
    (room.Room, "used_by"): ["self", "name"], (room.Room, "drop"): ["self", "name"],
    (room.Room, "rename"): ["self", "old", "new"], (room.Room, "set_move"): ["self", "name", "move"],
    (room.Room, "drop_move"): ["self", "name"], (room.Room, "watch"): ["self", "name"],
    (room.Room, "unwatch"): ["self", "name"], (room.Room, "vow"): ["self", "name", "one", "other"],
    (room.Room, "unvow"): ["self", "name"], (room.Room, "members"): ["self", "name"],
    (room.Room, "shelves_of"): ["self", "number"], (room.Room, "looked"): ["self"],
    (room.Room, "notices"): ["self", "since=0"],
    (room.Room, "lead"): ["self", "number", "into", "out_of=None", "keep=()", "locked=()"],
    (room.Room, "undo"): ["self"], (room.Room, "redo"): ["self"], (room.Room, "batch"): ["self"],
    (room.Room, "batched"): ["self", "look"], (room.Room, "trial"): ["self"],
    (room.Room, "tried"): ["self", "look", "keep=False"], (room.Room, "copy"): ["self"],
    (entries.Entry, "give"): ["self", "item"], (entries.Entry, "lay"): ["self", "path"],
    (entries.Entry, "put"): ["self", "*marks"], (entries.Entry, "drop"): ["self", "*marks"],
    (desk.Desk, "say"): ["self", "line"]}

ATTRIBUTES = (
    (FIELDS, ("folders", "marks", "numbers", "kinds", "names", "many", "everything", "nothing")),
    (FIELDS.everything, ("fields", "many", "least", "table")),
    (FIELDS.group(searches.at("in")), ("fields", "many", "least", "table")),
    (shelves.Shelves(FIELDS), ("names", "fields", "move_names")),
    (moves.Move(searches.at("in")), ("search", "to", "on", "off", "sets")),
    (FIELDS.made("in"), ("fields", "key", "marks")),
    (searches.at("in") & "x", ("parts", "shelves", "many")),
    (room.Room(FIELDS), ("fields", "numbers", "deeds", "watches", "vows")),
    (entries.Entry(room.Room(FIELDS), 0), ("number",)),
    (desk.Desk("folders in\ndeeds"), ("room",)))

# What tells the same as an attribute, but by what is there now.
PROPERTIES = ((items.Item, "folder"), (entries.Entry, "item"), (entries.Entry, "folder"))


def defined_in(module):
    """Return the names that a file defines by def and class."""
    tree = ast.parse(inspect.getsource(module))
    return [one.name for one in tree.body if isinstance(one, (ast.FunctionDef, ast.ClassDef))]


def arguments_of(function):
    """Return the parameters of a function as they are written."""
    return [str(one) for one in inspect.signature(function).parameters.values()]


class InterfaceTest(unittest.TestCase):
    def test_functions(self):
        for (module, name), arguments in FUNCTIONS.items():
            self.assertIn(name, defined_in(module))
            self.assertEqual(arguments_of(getattr(module, name)), arguments, name)

    def test_methods_stand_in_their_classes(self):
        for (one, name), arguments in METHODS.items():
            self.assertIn(name, vars(one))
            self.assertEqual(arguments_of(vars(one)[name]), arguments, name)

    def test_classes(self):
        for module, name in (
                (fields, "Fields"), (items, "Item"), (searches, "Search"), (errors, "ShelfError"), (groups, "Group"),
                (shelves, "Shelves"), (moves, "Move"), (room, "Room"), (entries, "Entry"), (desk, "Desk")):
            self.assertIn(name, defined_in(module))
        self.assertEqual(arguments_of(room.Room), ["fields"])
        self.assertEqual(arguments_of(desk.Desk), ["text"])
        self.assertEqual(arguments_of(shelves.Shelves), ["fields"])
        self.assertEqual(arguments_of(moves.Move), ["search", "to=None", "on=()", "off=()", "sets=()"])
        self.assertEqual(arguments_of(fields.Fields), ["folders", "marks=()", "numbers=()", "kinds=()"])
        kinds = [one.kind for one in inspect.signature(fields.Fields).parameters.values()]
        self.assertEqual(kinds[1:], [inspect.Parameter.KEYWORD_ONLY] * 3)

    def test_what_is_told_by_name_only(self):
        for function, names in (
                (moves.Move, ("to", "on", "off", "sets")), (ways.reach, ("only",)), (ways.back, ("only",)),
                (ways.lasting, ("only",)), (ways.can, ("only",)), (ways.shows_can, ("only",)),
                (ways.all_can, ("only",)), (ways.shows_all_can, ("only",)), (recipes.recipe, ("only",)),
                (recipes.shows_recipe, ("only",)), (effects.effects, ("only",)), (effects.alike_moves, ("only",)),
                (nearest.nearest, ("locked",)), (room.Room.lead, ("out_of", "keep", "locked")),
                (room.Room.tried, ("keep",))):
            kinds = inspect.signature(function).parameters
            told = tuple(name for name in kinds if kinds[name].kind == inspect.Parameter.KEYWORD_ONLY)
            self.assertEqual(told, names)

    def test_attributes_are_set_on_each_object(self):
        for one, names in ATTRIBUTES:
            for name in names:
                self.assertIn(name, vars(one))

    def test_properties_stand_in_their_classes(self):
        for one, name in PROPERTIES:
            self.assertIsInstance(vars(one)[name], property)


if __name__ == "__main__":
    unittest.main()

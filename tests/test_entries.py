"""Section 15, as far as it speaks of entries: held against a stand-in for a room, which only keeps items."""

import unittest

from helper import FIELDS, WIDE, any_values
from wishshelves.entries import Entry
from wishshelves.errors import BadItem, BadValue, NoEntry, NoField, NoFolder, NoMark
from wishshelves.fields import Fields
from wishshelves.items import Item

SAME = Fields(FIELDS.folders, marks=FIELDS.marks, numbers=FIELDS.numbers, kinds=FIELDS.kinds)
NEAR = Fields(FIELDS.folders, marks=FIELDS.marks, numbers=(("size", 4),), kinds=FIELDS.kinds)


class Now:
    def __init__(self, held):
        self.held = held


class Shell:
    """As much of a room as entries look at; deeds are the items that were given."""

    def __init__(self, fields, *items):
        self.fields = fields
        self.now = Now(dict(enumerate(items)))
        self.deeds = []

    def __eq__(self, other):
        return isinstance(other, Shell) and self.now.held == other.now.held

    def __setitem__(self, number, item):
        if number not in self.now.held:
            raise NoEntry(number)
        if not isinstance(item, Item) or item.fields != self.fields:
            raise BadItem(item)
        self.now.held[number] = item
        self.deeds.append((number, item.key))


def shell():
    """Return a stand-in with two entries."""
    return Shell(FIELDS, FIELDS.made("in", "red", size=2), FIELDS.made("out", kind="note"))


class EntriesCase(unittest.TestCase):
    def refused(self, error, values, call, room):
        """A call raises this error with these values, and changes nothing."""
        before = {number: item.key for number, item in room.now.held.items()}
        with self.assertRaises(error) as caught:
            call()
        for name, value in values.items():
            self.assertIs(getattr(caught.exception, name), value)
        self.assertEqual({number: item.key for number, item in room.now.held.items()}, before)
        self.assertEqual(room.deeds, [])


class ReadingTest(EntriesCase):
    def test_what_entries_tell(self):
        room = shell()
        entry = Entry(room, 0)
        self.assertEqual((entry.number, entry.item, entry.folder, entry["size"], entry["kind"]),
                         (0, FIELDS.made("in", "red", size=2), "in", 2, None))
        self.assertIs("red" in entry, True)
        self.assertIs("red" in Entry(room, 1), False)
        self.assertIs("red" not in Entry(room, 1), True)
        room.now.held[0] = FIELDS.made("out", size=0)
        self.assertEqual((entry.number, entry.item.key, entry.folder, entry["size"], "red" in entry),
                         (0, ("out", False, 0, None), "out", 0, False))

    def test_any_value(self):
        entry = Entry(shell(), 0)
        for value in [*any_values(), "in", "folder", 0, 2, ("red",), ["red"]]:
            self.assertIs(value in entry, False)
            self.refused(NoField, {"value": value}, lambda: entry[value], entry.room)
        self.refused(NoField, {"value": "red"}, lambda: entry["red"], entry.room)
        self.assertIs("size" in entry, False)

    def test_entries_cannot_be_iterated_over(self):
        for call in (iter, list, tuple, sorted):
            self.assertRaises(TypeError, call, Entry(shell(), 0))
        with self.assertRaises(TypeError):
            for one in Entry(shell(), 0):
                pass

    def test_equality(self):
        one, other = shell(), shell()
        self.assertIs(Entry(one, 0) == Entry(one, 0), True)
        self.assertIs(Entry(one, 0) == Entry(other, 0), True)
        self.assertIs(Entry(one, 0) != Entry(other, 0), False)
        self.assertIs(Entry(one, 0) == Entry(one, 1), False)
        self.assertIs(Entry(one, 7) == Entry(other, 7), True)
        other.now.held[1] = FIELDS.made("in")
        self.assertIs(Entry(one, 0) == Entry(other, 0), False)
        self.assertIs(Entry(one, 0) != Entry(other, 0), True)
        for value in [*any_values(), 0, one, one.now.held[0]]:
            self.assertIs(Entry(one, 0) == value, False)
            self.assertIs(value == Entry(one, 0), False)


class ChangingTest(EntriesCase):
    def test_each_change_is_one_deed(self):
        room = shell()
        entry = Entry(room, 0)
        entry.give(FIELDS.made("in/new"))
        self.assertIsNone(entry.lay("out"))
        entry["kind"] = "list"
        entry["size"] = 0
        self.assertIsNone(entry.put("red"))
        entry["kind"] = None
        self.assertIsNone(entry.drop("red"))
        self.assertEqual(room.deeds, [
            (0, ("in/new", False, None, None)), (0, ("out", False, None, None)), (0, ("out", False, None, "list")),
            (0, ("out", False, 0, "list")), (0, ("out", True, 0, "list")), (0, ("out", True, 0, None)),
            (0, ("out", False, 0, None))])
        self.assertEqual(room.now.held[1].key, ("out", False, None, "note"))

    def test_by_name(self):
        room = shell()
        entry = Entry(room=room, number=1)
        entry.give(item=SAME.made("in"))
        entry.lay(path="in/new")
        self.assertEqual(room.deeds, [(1, ("in", False, None, None)), (1, ("in/new", False, None, None))])

    def test_changes_to_what_it_is_already(self):
        room = shell()
        entry = Entry(room, 0)
        entry.give(entry.item)
        entry.lay("in")
        entry["size"] = 2
        entry.put("red")
        entry.put()
        entry.drop()
        self.assertEqual(room.deeds, [(0, ("in", True, 2, None))] * 6)

    def test_several_marks(self):
        room = Shell(WIDE, WIDE.made("a", "blue"))
        entry = Entry(room, 0)
        entry.put("blue", "red")
        self.assertEqual(entry.item.marks, ("red", "blue"))
        entry.drop("red", "blue")
        entry.put("red")
        entry.drop("blue")
        self.assertEqual(entry.item.marks, ("red",))
        self.assertEqual(len(room.deeds), 4)

    def test_bad_item(self):
        entry = Entry(shell(), 0)
        for value in [*any_values(), 0, "in", NEAR.made("in"), WIDE.made("a"), ("in", False, None, None)]:
            if not (isinstance(value, Item) and value.fields == FIELDS):
                self.refused(BadItem, {"value": value}, lambda: entry.give(value), entry.room)

    def test_no_folder(self):
        entry = Entry(shell(), 0)
        for value in [*any_values(), 0, "new", "in/old", ("in",), ["in"]]:
            self.refused(NoFolder, {"value": value}, lambda: entry.lay(value), entry.room)

    def test_no_field_then_bad_value(self):
        entry = Entry(shell(), 0)

        def laid(name, value):
            entry[name] = value
        for value in [*any_values(), 0, "folder", "red", "in", ("size",)]:
            self.refused(NoField, {"value": value}, lambda: laid(value, 1), entry.room)
            self.refused(NoField, {"value": value}, lambda: laid(value, value), entry.room)
        for value in [*any_values(), 4, "note", ("note",), [0]]:
            if value is not None:
                self.refused(BadValue, {"name": "size", "value": value}, lambda: laid("size", value), entry.room)
                if value != "note":
                    self.refused(BadValue, {"name": "kind", "value": value}, lambda: laid("kind", value), entry.room)

    def test_no_mark(self):
        entry = Entry(shell(), 0)
        for value in [*any_values(), 0, "blue", "size", "in", ("red",)]:
            for call in (entry.put, entry.drop):
                self.refused(NoMark, {"value": value}, lambda: call(value), entry.room)
                self.refused(NoMark, {"value": value}, lambda: call("red", value, "blue"), entry.room)
        for call in (entry.put, entry.drop):
            self.refused(NoMark, {"value": "red"}, lambda: call("red", "red"), entry.room)
            self.refused(NoMark, {"value": "zzz"}, lambda: call("zzz", "red", "red"), entry.room)

    def test_no_entry_ahead_of_all_else(self):
        room = shell()
        entry = Entry(room, 0)
        del room.now.held[0]

        def laid(name):
            entry[name] = 1
        for call in (
                lambda: entry.item, lambda: entry.folder, lambda: entry["size"], lambda: entry["zzz"],
                lambda: "red" in entry, lambda: None in entry, lambda: entry.give(FIELDS.made("in")),
                lambda: entry.give(None), lambda: entry.lay("in"), lambda: entry.lay(None), lambda: laid("size"),
                lambda: laid("zzz"), lambda: entry.put("red"), lambda: entry.put(None), entry.put, entry.drop,
                lambda: entry.drop("red", "red")):
            self.refused(NoEntry, {"value": 0}, call, room)
        self.assertEqual(entry.number, 0)
        room.now.held[0] = FIELDS.made("out")
        self.assertEqual(entry.folder, "out")


if __name__ == "__main__":
    unittest.main()

"""Section 15: the room, its deeds and what it tells."""

import itertools
import unittest

from helper import FIELDS, LARGEST, WIDE, any_values, repr_of
from wishshelves.entries import Entry
from wishshelves.errors import (
    BadItem, BadLaid, BadMove, BadName, BadNames, BadRing, BadSearch, BadValue, InUse, NoEntry, NoField, NoFolder,
    NoMark, NoMove, NoShelf, NotAllowed, NothingToUndo, Taken, TooLong, TooMany)
from wishshelves.fields import Fields
from wishshelves.items import Item
from wishshelves.moves import Move
from wishshelves.room import Room
from wishshelves.searches import (
    Search, at, below, everything, filled, least, marked, nothing, said, shelf)
from wishshelves.shelves import Shelves

SAME = Fields(FIELDS.folders, marks=FIELDS.marks, numbers=FIELDS.numbers, kinds=FIELDS.kinds)
NEAR = Fields(FIELDS.folders, marks=FIELDS.marks, numbers=(("size", 4),), kinds=FIELDS.kinds)


def example():
    """Return the room of the document's example, as it stands at the end of section 15."""
    room = Room(FIELDS)
    room.add(FIELDS.made("in", "red", size=2))
    room.add(FIELDS.made("in/new", kind="note"))
    room["new"] = below("in") & ~marked("red")
    room[0].drop("red")
    room[1].lay("out")
    return room


def fuller():
    """Return a room with several entries, shelves, moves, watches and vows, and deeds that can be done again."""
    room = example()
    room["big"] = least("size", 2) & "new"
    room.set_move("file", Move(at("in") & marked("red"), to="out"))
    room.set_move("tag", Move(shelf("big") & at("in"), on=("red",)))
    room.add(FIELDS.made("in", size=3, kind="list"))
    room.watch("new")
    room.vow("kept", shelf("new") & at("in/new"), at("out"))
    room[2].lay("out")
    room.undo()
    return room


def told(room):
    """Return all that a room tells, as a text."""
    kept = room.kept()
    return repr((
        room.fields.names, room.numbers, [room[number].item.key for number in room.numbers], room.deeds, room.watches,
        [(name, repr_of(one), repr_of(other)) for name, one, other in room.vows], kept.names, kept.move_names,
        [repr_of(kept[name]) for name in kept.names], [room.members(name) for name in kept.names],
        [vars(kept.move(name)).keys() and repr_of(kept.move(name).search) for name in kept.move_names],
        room.looked(), room.notices(), room.journal()))


class RoomCase(unittest.TestCase):
    def refused(self, error, values, room, call):
        """A call raises this error with these values, and changes nothing, neither what can be done again."""
        before, undone = told(room), len(room.undone)
        with self.assertRaises(error) as caught:
            call()
        self.assertEqual({name: repr(value) for name, value in vars(caught.exception).items()},
                         {name: repr(value) for name, value in values.items()})
        self.assertEqual((told(room), len(room.undone)), (before, undone))


class ExamplesTest(unittest.TestCase):
    def test_the_examples_of_the_document(self):
        room = Room(FIELDS)
        one = [room.add(FIELDS.made("in", "red", size=2)), room.add(FIELDS.made("in/new", kind="note"))]
        room["new"] = below("in") & ~marked("red")
        room[0].drop("red")
        room[1].lay("out")
        self.assertEqual([one, room.members("new"), room.shelves_of(1), room[0].item.key, room[1]["kind"]],
                         [[0, 1], (0,), (), ("in", False, 2, None), "note"])


class EmptyTest(RoomCase):
    def test_it_is_empty_at_first(self):
        room = Room(fields=WIDE)
        self.assertIs(room.fields, WIDE)
        self.assertEqual((room.numbers, room.deeds, room.watches, room.vows), ((), 0, (), ()))
        self.assertEqual((room.looked(), room.notices()), ((), ()))
        self.assertTrue(room.kept() == Shelves(WIDE))
        self.refused(NothingToUndo, {}, room, room.undo)
        for value in [*any_values(), 0]:
            if not isinstance(value, str):
                self.refused(NoEntry, {"value": value}, room, lambda: room[value])

    def test_it_cannot_be_iterated_over(self):
        for room in (Room(FIELDS), example()):
            for call in (iter, list, tuple, sorted):
                self.assertRaises(TypeError, call, room)
            with self.assertRaises(TypeError):
                for one in room:
                    pass


class EntriesTest(RoomCase):
    def test_numbers_are_given_once(self):
        room = Room(FIELDS)
        item = FIELDS.made("in")
        self.assertEqual([room.add(item), room.add(item=item), room.add(item)], [0, 1, 2])
        self.assertIsNone(room.take_out(number=2))
        self.assertIsNone(room.take_out(0))
        self.assertEqual((room.add(item), room.add(item)), (3, 4))
        self.assertEqual((room.numbers, room.deeds), ((1, 3, 4), 7))
        self.refused(NoEntry, {"value": 0}, room, lambda: room.take_out(0))

    def test_numbers_of_deeds_that_were_taken_back_are_given_again(self):
        room = Room(FIELDS)
        item = FIELDS.made("in")
        room.add(item)
        room.add(item)
        room.undo()
        self.assertEqual((room.numbers, room.add(FIELDS.made("out"))), ((0,), 1))
        room.take_out(1)
        room.undo()
        self.assertEqual((room.numbers, room[1].folder, room.add(item)), ((0, 1), "out", 2))

    def test_bad_item(self):
        room = example()
        for value in [*any_values(), 0, "in", NEAR.made("in"), WIDE.made("a"), ("in", False, None, None)]:
            if not (isinstance(value, Item) and value.fields == FIELDS):
                self.refused(BadItem, {"value": value}, room, lambda: room.add(value))
                self.refused(BadItem, {"value": value}, room, lambda: room.__setitem__(0, value))
                self.refused(BadItem, {"value": value}, room, lambda: room[0].give(value))
        self.assertEqual(room.add(SAME.made("in")), 2)

    def test_no_entry(self):
        room = fuller()
        for value in [*any_values(), 7, 3, "new", "0", (0,), 10 ** 29]:
            calls = [
                lambda: room.take_out(value), lambda: room.move_entry(value, "file"), lambda: room.shelves_of(value),
                lambda: room.move_entry(value, None), lambda: room.lead(value, "new"), lambda: room.lead(value, None)]
            if not isinstance(value, str):
                calls += [lambda: room[value], lambda: room.__setitem__(value, FIELDS.made("in")),
                          lambda: room.__setitem__(value, None)]
            for call in calls:
                self.refused(NoEntry, {"value": value}, room, call)

    def test_true_is_not_one(self):
        room = example()
        for value in (True, False, 1.0):
            self.refused(NoEntry, {"value": value}, room, lambda: room[value])
            self.refused(NoEntry, {"value": value}, room, lambda: room.take_out(value))

    def test_entries(self):
        room = example()
        entry = room[0]
        self.assertIsInstance(entry, Entry)
        self.assertEqual((entry.number, entry.item, entry.folder, entry["size"], entry["kind"], "red" in entry),
                         (0, FIELDS.made("in", size=2), "in", 2, None, False))
        room[0] = FIELDS.made("out", "red", kind="list")
        self.assertEqual((entry.folder, entry["size"], entry["kind"], "red" in entry), ("out", None, "list", True))
        self.assertEqual(room[1].number, 1)
        for call in (iter, list):
            self.assertRaises(TypeError, call, entry)

    def test_entries_are_deeds(self):
        room = example()
        entry, deeds = room[1], room.deeds
        entry.give(FIELDS.made("in"))
        entry.lay("in/new")
        entry["size"] = 1
        entry.put("red")
        entry.put()
        entry["size"] = None
        entry.drop("red")
        entry.drop()
        self.assertEqual((room.deeds - deeds, entry.item.key), (8, ("in/new", False, None, None)))
        room.undo()
        room.undo()
        self.assertEqual((entry.item.key, room.deeds - deeds), (("in/new", True, None, None), 6))
        self.assertEqual(room.members("new"), (0,))

    def test_entries_that_are_gone_and_come_back(self):
        room = example()
        entry = room[1]
        room.take_out(1)
        for call in (lambda: entry.item, lambda: entry.folder, lambda: entry["size"], lambda: entry["zzz"],
                     lambda: "red" in entry, lambda: entry.give(None), lambda: entry.lay(None),
                     lambda: entry.__setitem__("zzz", 1), lambda: entry.put(None), lambda: entry.drop(None)):
            self.refused(NoEntry, {"value": 1}, room, call)
        self.assertEqual(entry.number, 1)
        room.undo()
        self.assertEqual(entry.folder, "out")

    def test_errors_of_entries(self):
        room = fuller()
        entry = room[0]
        self.refused(NoFolder, {"value": "new"}, room, lambda: entry.lay("new"))
        self.refused(NoField, {"value": "red"}, room, lambda: entry.__setitem__("red", True))
        self.refused(BadValue, {"name": "size", "value": 4}, room, lambda: entry.__setitem__("size", 4))
        self.refused(NoMark, {"value": "blue"}, room, lambda: entry.put("red", "blue"))
        self.refused(NoMark, {"value": "red"}, room, lambda: entry.drop("red", "red"))
        self.refused(NoField, {"value": "red"}, room, lambda: entry["red"])

    def test_equality_of_entries(self):
        room, other = example(), example()
        self.assertTrue(room[0] == other[0] and not room[0] != other[0])
        self.assertFalse(room[0] == room[1])
        gone = other[1]
        other[1] = FIELDS.made("in")
        self.assertFalse(room[0] == other[0])
        self.assertFalse(room[1] == gone)
        room[1] = FIELDS.made("in")
        self.assertTrue(room[1] == gone)
        for value in [*any_values(), room, 0, room[0].item]:
            self.assertIs(room[0] == value, False)
            self.assertIs(value == room[0], False)

    def test_move_entry(self):
        room = fuller()
        room[0].put("red")
        deeds = room.deeds
        self.assertIsNone(room.move_entry(0, "file"))
        self.assertEqual((room[0].item.key, room.deeds - deeds), (("out", True, 2, None), 1))
        self.refused(NotAllowed, {"value": room[0].item}, room, lambda: room.move_entry(0, "file"))
        for value in [*any_values(), "new", "zzz", ("file",)]:
            self.refused(NoMove, {"value": value}, room, lambda: room.move_entry(0, value))
        room.move_entry(number=2, name="tag")
        self.assertEqual(room[2].item.key, ("in", True, 3, "list"))


class ShelvesTest(RoomCase):
    """Shelves and moves of a room, as those of a Shelves."""

    def test_deeds_of_shelves(self):
        room = example()
        deeds = room.deeds
        room["big"] = least("size", 2) & "new"
        self.assertIsNone(room.set_move(name="file", move=Move(at("in") & marked("red"), to="out")))
        self.assertIsNone(room.set_move("tag", Move(shelf("new") & at("in"), on=("red",))))
        self.assertIsNone(room.rename(old="new", new="low"))
        shelves = Shelves(FIELDS)
        shelves["low"] = below("in") & ~marked("red")
        shelves["big"] = least("size", 2) & "low"
        shelves.set_move("file", Move(at("in") & marked("red"), to="out"))
        shelves.set_move("tag", Move(shelf("low") & at("in"), on=("red",)))
        self.assertTrue(room.kept() == shelves)
        self.assertEqual((room["big"], room.deeds - deeds), (least("size", 2) & "low", 4))
        self.assertEqual(room.used_by(name="low"), (("move", "tag"), ("shelf", "big")))
        self.assertIsNone(room.drop_move(name="tag"))
        self.assertIsNone(room.drop(name="big"))
        self.assertEqual((room.used_by("low"), room.kept().names, room.kept().move_names, room.deeds - deeds),
                         ((), ("low",), ("file",), 6))

    def test_deeds_that_change_nothing(self):
        room = fuller()
        deeds = room.deeds
        room["new"] = room["new"]
        room.set_move("file", room.kept().move("file"))
        room[0] = room[0].item
        room[0].put()
        self.assertEqual(room.deeds, deeds + 4)
        self.assertEqual(room.looked(), ())

    def test_kept_is_a_copy(self):
        room = example()
        kept = room.kept()
        self.assertIsInstance(kept, Shelves)
        kept["x"] = at("in")
        kept["new"] = nothing()
        self.assertEqual((room.kept().names, room["new"], room.members("new")),
                         (("new",), below("in") & ~marked("red"), (0,)))
        other = room.kept()
        room["new"] = nothing()
        self.assertEqual(other["new"], below("in") & ~marked("red"))

    def test_no_shelf(self):
        room = fuller()
        for value in [*any_values(), 0, "file", "kept", "zzz", ("new",)]:
            calls = [
                lambda: room.members(value), lambda: room.used_by(value), lambda: room.drop(value),
                lambda: room.rename(value, "x"), lambda: room.rename(value, None), lambda: room.watch(value),
                lambda: room.lead(0, value), lambda: room.lead(0, value, out_of="zzz", keep=1, locked=1)]
            calls += [lambda: room[value]] if isinstance(value, str) else []
            calls += [lambda: room.lead(0, "new", out_of=value, keep=1, locked=1)] if value is not None else []
            for call in calls:
                self.refused(NoShelf, {"value": value}, room, call)

    def test_setting_shelves(self):
        room = fuller()

        def laid(name, search):
            room[name] = search
        for value in any_values():
            if isinstance(value, str):
                self.refused(BadName, {"value": value}, room, lambda: laid(value, at("in")))
                self.refused(BadName, {"value": value}, room, lambda: laid(value, value))
            if not isinstance(value, Search):
                self.refused(BadSearch, {"value": value}, room, lambda: laid("x", value))
                self.refused(BadSearch, {"value": value}, room, lambda: laid("new", value))
        self.refused(NoFolder, {"value": "new"}, room, lambda: laid("x", at("new")))
        self.refused(NoField, {"value": "blue"}, room, lambda: laid("x", marked("blue")))
        self.refused(NoShelf, {"value": "zzz"}, room, lambda: laid("x", shelf("zzz")))
        self.refused(BadRing, {"ring": ("big", "new")}, room, lambda: laid("new", at("in") | "big"))
        self.refused(BadRing, {"ring": ("x",)}, room, lambda: laid("x", ~shelf("x")))

    def test_too_many(self):
        room = Room(FIELDS)
        for name in "abcdefgh":
            room[name] = at("in")
        for name in "abcdef":
            room.set_move(name, Move(at("in")))
        self.refused(TooMany, {"most": 8}, room, lambda: room.__setitem__("i", at("in")))
        self.refused(TooMany, {"most": 6}, room, lambda: room.set_move("g", Move(at("in"))))
        row = at("in") & at("in") & at("in") & at("in")
        for name in "abc":
            room[name] = row & row & row & row
        self.refused(TooLong, {"most": 60}, room, lambda: room.__setitem__("h", row & row & row & row))

    def test_dropping_renaming_and_moves(self):
        room = fuller()
        users = (("move", "tag"),)
        self.refused(InUse, {"users": users}, room, lambda: room.drop("big"))
        users = (("shelf", "big"), ("vow", "kept"))
        self.assertEqual(room.used_by("new"), users)
        self.refused(InUse, {"users": users}, room, lambda: room.drop("new"))
        for value in [*any_values(), 0, "in/new"]:
            self.refused(BadName, {"value": value}, room, lambda: room.rename("new", value))
            self.refused(BadName, {"value": value}, room, lambda: room.set_move(value, Move(at("in"))))
            if not isinstance(value, Move):
                self.refused(BadMove, {"value": value}, room, lambda: room.set_move("x", value))
        for name in ("new", "big"):
            self.refused(Taken, {"value": name}, room, lambda: room.rename("new", name))
        for value in [*any_values(), "new", "zzz", 0]:
            self.refused(NoMove, {"value": value}, room, lambda: room.drop_move(value))
        self.refused(NoFolder, {"value": "new"}, room, lambda: room.set_move("x", Move(at("new"))))
        self.refused(NoFolder, {"value": "new"}, room, lambda: room.set_move("x", Move(at("in"), to="new")))
        self.refused(NoMark, {"value": "blue"}, room, lambda: room.set_move("x", Move(at("in"), off=("blue",))))
        self.refused(BadValue, {"name": "size", "value": 4}, room,
                     lambda: room.set_move("x", Move(at("in"), sets=(("size", 4),))))
        self.assertRaises(BadLaid, Move, at("in"), to=1)


class MembersTest(RoomCase):
    def test_members_and_shelves_of(self):
        room = fuller()
        self.assertEqual([room.members("new"), room.members(name="big"), room.shelves_of(0), room.shelves_of(number=1)],
                         [(0, 2), (0, 2), ("big", "new"), ()])
        room["new"] = everything()
        self.assertEqual([room.members("new"), room.members("big"), room.shelves_of(1)], [(0, 1, 2), (0, 2), ("new",)])
        room.take_out(0)
        room["aaa"] = filled("kind") - "big"
        self.assertEqual([room.members("aaa"), room.members("new"), room.shelves_of(1), room.shelves_of(2)],
                         [(1,), (1, 2), ("aaa", "new"), ("big", "new")])
        room.rename("aaa", "zzz")
        self.assertEqual(room.shelves_of(1), ("new", "zzz"))

    def test_the_largest_fields(self):
        room = Room(LARGEST)
        room["a"] = below("a") & least("i", 50) ^ marked("h")
        room["b"] = said("k", "c") | ~shelf("a") & filled("l")
        for number in range(60):
            marks = [mark for place, mark in enumerate(LARGEST.marks) if number >> place & 1]
            room.add(LARGEST.made(LARGEST.folders[number % 6], *marks, i=number + 20, j=number, l="abcd"[number % 4]))
        for name in ("a", "b"):
            self.assertEqual(room.members(name), tuple(
                number for number in range(60) if room[name](room[number].item, room.kept())))
        for number in room.numbers:
            self.assertEqual(room.shelves_of(number), tuple(name for name in "ab" if number in room.members(name)))
        self.assertEqual(room.lead(0, "b", out_of="a"), room[0].item)


class LeadTest(RoomCase):
    def test_the_example_of_the_document(self):
        self.assertEqual(example().lead(1, "new").key, ("in", False, None, "note"))

    def test_lead(self):
        room = fuller()
        room["red"] = marked("red")
        before = told(room)
        for (number, into), more, key in (
                ((1, "big"), {}, ("in", False, 2, "note")), ((1, "red"), {}, ("out", True, None, "note")),
                ((0, "red"), {"keep": ("big",)}, None), ((0, "red"), {"keep": ("new",), "out_of": "big"}, None),
                ((0, "red"), {"out_of": "new"}, ("in", True, 2, None)), ((0, "new"), {}, ("in", False, 2, None)),
                ((0, "new"), {"out_of": "big"}, ("in", False, None, None)),
                ((0, "new"), {"out_of": "big", "locked": ("size",)}, None),
                ((1, "new"), {"keep": ("big",)}, ("in", False, None, "note")),
                ((1, "new"), {"keep": ("big", "red"), "locked": ("folder",)}, None),
                ((1, "red"), {"locked": ("folder", "size", "kind")}, ("out", True, None, "note")),
                ((0, "red"), {"keep": ("red",)}, None), ((0, "new"), {"out_of": "new"}, None)):
            found = room.lead(number, into, **more)
            self.assertEqual(found and found.key, key)
            self.assertTrue(found is None or isinstance(found, Item))
        self.assertEqual(room.lead(number=1, into="big", out_of=None, keep=(), locked=()).key, ("in", False, 2, "note"))
        self.assertRaises(TypeError, room.lead, 1, "big", "red")
        self.assertEqual(told(room), before)

    def test_the_errors_in_their_sequence(self):
        room = fuller()
        wrong = [*any_values(), 0, "new", ("zzz",), ("new", "new"), ("new", "file"), ["new"], ("new", None)]
        for value in wrong:
            if value != ():
                self.refused(BadNames, {"value": value}, room, lambda: room.lead(0, "new", keep=value))
                self.refused(BadNames, {"value": value}, room, lambda: room.lead(0, "new", keep=value, locked=5))
                self.refused(BadNames, {"value": value}, room, lambda: room.lead(0, "new", locked=value))
                self.refused(BadNames, {"value": value}, room,
                             lambda: room.lead(0, "new", out_of="big", keep=("big", "new"), locked=value))
        self.refused(BadNames, {"value": ("red", "red")}, room, lambda: room.lead(0, "new", locked=("red", "red")))
        self.refused(BadNames, {"value": ("red",)}, room, lambda: room.lead(0, "new", keep=("red",)))


class EqualityTest(RoomCase):
    def test_equality(self):
        made = [lambda: Room(FIELDS), lambda: Room(NEAR), example, fuller]
        for change in (
                lambda room: room.take_out(2), lambda room: room[2].put("red"), lambda room: room.unwatch("new"),
                lambda room: room.unvow("kept"), lambda room: room.drop_move("file"),
                lambda room: room.rename("big", "bag"), lambda room: room.watch("big"),
                lambda room: room.__setitem__("big", least("size", 3) & "new"),
                lambda room: room.set_move("file", Move(at("in") & marked("red"), to="in")),
                lambda room: room.vow("other", nothing(), nothing()),
                lambda room: [room.unvow("kept"), room.vow("kept", at("in/new"), at("out"))],
                lambda room: room.add(FIELDS.made("in"))):
            made.append(lambda change=change: changed(change))
        for (number, one), (other_number, other) in itertools.product(enumerate(made), repeat=2):
            self.assertIs(one() == other(), number == other_number, (number, other_number))
            self.assertIs(one() != other(), number != other_number)
        for value in any_values():
            self.assertIs(example() == value, False)
            self.assertIs(value == example(), False)

    def test_deeds_make_no_difference(self):
        one, other = Room(FIELDS), Room(SAME)
        for room in (one, other):
            room.add(FIELDS.made("in"))
            room["a"] = at("in")
        other.add(FIELDS.made("out"))
        other.take_out(1)
        other.watch("a")
        other.unwatch("a")
        self.assertTrue(one == other)
        self.assertFalse(one.deeds == other.deeds)
        self.assertEqual((one.add(FIELDS.made("in")), other.add(FIELDS.made("in"))), (1, 2))
        self.assertFalse(one == other)

    def test_copy(self):
        room = fuller()
        self.assertTrue(room.looked() and room.notices())
        same, before = room.copy(), told(room)
        self.assertIsInstance(same, Room)
        self.assertTrue(same == room)
        self.assertEqual((same.deeds, same.journal(), same.looked(), same.notices()),
                         (room.deeds, room.journal(), (), ()))
        same.redo()
        self.assertEqual((same[2].folder, room[2].folder), ("out", "in"))
        self.assertEqual((same.looked(), same.notices()), (((2, "big"), (2, "new")), ((same.deeds, "new", 2, False),)))
        self.assertEqual(same.add(FIELDS.made("in")), 3)
        same[0].put("red")
        same["new"] = nothing()
        same.drop_move("tag")
        same.unvow("kept")
        same.unwatch("new")
        while same.deeds:
            same.undo()
        self.assertTrue(same == Room(FIELDS))
        self.assertEqual(told(room), before)
        other = room.copy()
        room.redo()
        room[1].put("red")
        self.assertEqual((other[2].folder, other.deeds, other.add(FIELDS.made("in"))), ("in", room.deeds - 2, 3))

    def test_copies_of_copies(self):
        room = fuller()
        self.assertTrue(room.copy().copy() == room)
        self.assertEqual(room.copy().copy().journal(), room.journal())


def changed(change):
    """Return the fuller room, changed."""
    room = fuller()
    change(room)
    return room


class ManyTest(RoomCase):
    def test_sixty_entries_and_three_hundred_deeds(self):
        room = Room(FIELDS)
        room["in"] = below("in")
        room.watch("in")
        for number in range(60):
            self.assertEqual(room.add(FIELDS.made("in" if number % 2 else "out")), number)
        for number in range(238):
            room[number % 60].lay("out" if number % 3 else "in/new")
        self.assertEqual(room.deeds, 300)
        self.assertEqual(len(room.journal().split("\n")), 305)
        here = set()
        for deed, name, number, came in room.notices():
            here = here | {number} if came else here - {number}
        self.assertEqual(tuple(sorted(here)), room.members("in"))
        while room.deeds:
            room.undo()
        self.assertTrue(room == Room(FIELDS))
        for number in range(300):
            room.redo()
        self.assertEqual((room.deeds, tuple(sorted(here))), (300, room.members("in")))


if __name__ == "__main__":
    unittest.main()

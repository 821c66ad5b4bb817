"""Section 18: vows."""

import unittest

from helper import FIELDS, LARGEST, any_values
from test_room import RoomCase
from wishshelves.errors import (
    BadName, BadRing, BadSearch, Broken, InUse, NoField, NoFolder, NoMove, NoShelf, NoVow, Taken, TooLong, TooMany)
from wishshelves.items import Item
from wishshelves.moves import Move
from wishshelves.room import Room
from wishshelves.searches import Search, at, below, everything, filled, least, marked, nothing, shelf
from wishshelves.ways import can


def example():
    """Return a room with the shelf new, the move file and the vow kept, of the document's example."""
    room = Room(FIELDS)
    room["new"] = below("in") & ~marked("red")
    room.set_move("file", Move(at("in") & marked("red"), to="out"))
    room.vow("kept", shelf("new"), at("out"))
    return room


class VowCase(RoomCase):
    def broken(self, room, call, name, key, run):
        """A call is refused with Broken of this name, of an item with this key, and this run."""
        with self.assertRaises(Broken) as caught:
            call()
        error = caught.exception
        self.assertIsInstance(error.value, Item)
        self.assertEqual((error.name, error.value.key, error.run), (name, key, run))
        self.refused(Broken, {"name": error.name, "value": error.value, "run": error.run}, room, Reraise(call, error))


class Reraise:
    """A call that raises the same again, with one and the same item in it."""

    def __init__(self, call, error):
        self.call, self.error = call, error

    def __call__(self):
        try:
            self.call()
        except Broken as error:
            error.value = self.error.value if error.value == self.error.value else None
            raise


class VowTest(VowCase):
    def test_the_example_of_the_document(self):
        room = example()
        self.assertEqual([room.vows[0][0], room.used_by("new")], ["kept", (("vow", "kept"),)])
        self.broken(room, lambda: room.set_move("tag", Move(at("in"), on=("red",))),
                    "kept", ("in", False, None, None), ("tag", "file"))

    def test_vows(self):
        room = example()
        deeds = room.deeds
        self.assertIsNone(room.vow(name="all", one=at("out"), other=at("in")))
        self.assertEqual(room.vows, (("all", at("out"), at("in")), ("kept", shelf("new"), at("out"))))
        self.assertIsInstance(room.vows, tuple)
        self.assertIsNone(room.unvow(name="kept"))
        self.assertEqual((room.vows, room.used_by("new"), room.deeds - deeds), ((("all", at("out"), at("in")),), (), 2))
        room.undo()
        room.undo()
        self.assertEqual(room.vows, (("kept", shelf("new"), at("out")),))

    def test_names_of_vows_shelves_and_moves_are_apart(self):
        room = example()
        room.vow("new", nothing(), nothing())
        room.vow("file", nothing(), everything())
        self.assertEqual([vow[0] for vow in room.vows], ["file", "kept", "new"])

    def test_wrong_values(self):
        room = example()
        for value in [*any_values(), 0, "in/new"]:
            self.refused(BadName, {"value": value}, room, lambda: room.vow(value, at("in"), at("out")))
            self.refused(BadName, {"value": value}, room, lambda: room.vow(value, value, value))
        for value in [*any_values(), "new", 0]:
            if not isinstance(value, Search):
                self.refused(Taken, {"value": "kept"}, room, lambda: room.vow("kept", value, value))
                self.refused(BadSearch, {"value": value}, room, lambda: room.vow("x", value, None))
                self.refused(BadSearch, {"value": value}, room, lambda: room.vow("x", at("zzz"), value))
            self.refused(NoVow, {"value": value}, room, lambda: room.unvow(value))
        for search, error, value in ((at("new"), NoFolder, "new"), (marked("blue"), NoField, "blue"),
                                     (shelf("zzz"), NoShelf, "zzz"), (filled("red"), NoField, "red")):
            self.refused(error, {"value": value}, room, lambda: room.vow("x", search, at("yyy")))
            self.refused(error, {"value": value}, room, lambda: room.vow("x", everything(), everything() & search))

    def test_a_fifth_vow(self):
        room = example()
        for name in "abc":
            room.vow(name, nothing(), everything())
        self.assertEqual(len(room.vows), 4)
        self.refused(TooMany, {"most": 4}, room, lambda: room.vow("d", nothing(), nothing()))
        self.refused(TooMany, {"most": 4}, room, lambda: room.vow("d", everything(), everything()))
        self.refused(NoFolder, {"value": "new"}, room, lambda: room.vow("d", at("new"), nothing()))
        self.refused(Taken, {"value": "a"}, room, lambda: room.vow("a", nothing(), nothing()))
        room.unvow("b")
        room.vow("d", nothing(), nothing())
        self.assertEqual([vow[0] for vow in room.vows], ["a", "c", "d", "kept"])

    def test_a_vow_that_is_broken_at_once(self):
        room = example()
        self.broken(room, lambda: room.vow("x", below("in"), at("out")), "x", ("in", True, None, None), ("file",))
        self.broken(room, lambda: room.vow("x", below("in"), shelf("new")), "x", ("in", False, None, None), ())
        self.broken(room, lambda: room.vow("x", marked("red"), least("size", 2)), "x", ("in", True, 2, None), ())
        room.unvow("kept")
        room.set_move("tag", Move(at("in") & least("size", 2), on=("red",)))
        self.broken(room, lambda: room.vow("kept", shelf("new"), at("out")), "kept", ("in", False, 2, None),
                    ("tag", "file"))
        self.assertEqual(room.vows, ())

    def test_as_can_tells_it(self):
        room = example()
        kept = room.kept()
        kept.set_move("tag", Move(below("in"), on=("red",)))
        kept.set_move("up", Move(at("in/new"), to="in"))
        room.set_move("up", Move(at("in/new"), to="in"))
        with self.assertRaises(Broken) as caught:
            room.set_move("tag", Move(below("in"), on=("red",)))
        value = can(kept, kept.group("new"), FIELDS.group(at("out")))
        self.assertEqual(("run", caught.exception.value, caught.exception.run), value)


class RefusedTest(VowCase):
    def test_shelves(self):
        room = example()
        self.broken(room, lambda: room.__setitem__("new", below("in")), "kept", ("in", True, None, None), ("file",))
        self.broken(room, lambda: room.__setitem__("new", everything()), "kept", ("out", False, None, None), ())
        room["new"] = at("in") - marked("red")
        room["deep"] = nothing()
        room["new"] = shelf("deep") | at("in/new")
        self.broken(room, lambda: room.__setitem__("deep", marked("red")), "kept", ("out", True, None, None), ())
        self.broken(room, lambda: room.__setitem__("deep", at("in")), "kept", ("in", True, None, None), ("file",))
        room["deep"] = at("in/new")

    def test_shelves_of_moves(self):
        room = example()
        room["how"] = nothing()
        room.set_move("tag", Move(shelf("how"), on=("red",)))
        self.broken(room, lambda: room.__setitem__("how", least("size", 1)), "kept", ("in", False, 1, None),
                    ("tag", "file"))
        room["how"] = least("size", 1) & at("in/new")

    def test_the_first_by_name(self):
        room = Room(FIELDS)
        room.vow("b", at("in"), at("out"))
        room.vow("a", at("in/new"), at("out"))
        room.vow("c", ~marked("red"), marked("red"))
        room.vow("aa", marked("red"), ~marked("red"))
        for move, name, key in (
                (Move(everything(), to="out"), "a", ("in/new", False, None, None)),
                (Move(everything(), off=("red",)), "aa", ("in", True, None, None)),
                (Move(at("in"), to="out", on=("red",)), "b", ("in", False, None, None)),
                (Move(at("out"), to="in", on=("red",)), "c", ("out", False, None, None))):
            self.broken(room, lambda: room.set_move("go", move), name, key, ("go",))
        room.unvow("aa")
        room.unvow("c")
        room.set_move("go", Move(at("out"), to="in", on=("red",)))

    def test_behind_all_other_errors(self):
        room = example()
        row = at("in") & at("in") & at("in") & at("in")
        row = row & row & row & row
        for error, values, search in (
                (NoFolder, {"value": "zzz"}, everything() | at("zzz")), (BadRing, {"ring": ("new",)}, ~shelf("new"))):
            self.refused(error, values, room, lambda: room.__setitem__("new", search))
        for name in "abc":
            room[name] = row
        room["d"] = at("in") & at("in")
        # Each of these would break the vow, too.
        self.refused(TooLong, {"most": 60}, room, lambda: room.__setitem__("new", ~row))
        for name in "efg":
            room[name] = nothing()
        self.refused(TooMany, {"most": 8}, room, lambda: room.__setitem__("h", everything()))
        for name in "abcde":
            room.set_move(name, Move(nothing()))
        self.refused(TooMany, {"most": 6}, room, lambda: room.set_move("x", Move(everything(), to="out")))
        self.broken(room, lambda: room.set_move("a", Move(everything(), to="out")), "kept",
                    ("in", False, None, None), ("a",))

    def test_what_breaks_nothing(self):
        room = example()
        room.set_move("tag", Move(at("out"), on=("red",)))
        room.add(FIELDS.made("in"))
        room[0].lay("out")
        room["free"] = marked("red")
        room.drop("free")
        room.drop_move("file")
        room.set_move("tag", Move(at("in"), on=("red",)))
        self.broken(room, lambda: room.set_move("file", Move(at("in") & marked("red"), to="out")), "kept",
                    ("in", False, None, None), ("tag", "file"))
        room.unvow("kept")
        room.set_move("file", Move(at("in") & marked("red"), to="out"))
        self.refused(NoMove, {"value": "zzz"}, room, lambda: room.drop_move("zzz"))

    def test_in_use(self):
        room = example()
        room["big"] = least("size", 2)
        room.vow("far", nothing() & "new", ~shelf("big") & nothing() & "big")
        self.assertEqual(room.used_by("big"), (("vow", "far"),))
        self.assertEqual(room.used_by("new"), (("vow", "far"), ("vow", "kept")))
        self.refused(InUse, {"users": (("vow", "far"),)}, room, lambda: room.drop("big"))
        room["x"] = shelf("big")
        room.set_move("go", Move(shelf("big") & "x"))
        self.assertEqual(room.used_by("big"), (("move", "go"), ("shelf", "x"), ("vow", "far")))
        self.assertEqual(room.kept().used_by("big"), (("move", "go"), ("shelf", "x")))
        room.drop_move("go")
        room.drop("x")
        room.unvow("far")
        room.drop("big")
        self.assertEqual(room.kept().names, ("new",))

    def test_rename(self):
        room = example()
        room.vow("far", ~(shelf("new") ^ at("in")) & nothing() - "new", "new" & nothing())
        room.rename("new", "old")
        self.assertEqual(room.vows, (
            ("far", ~(shelf("old") ^ at("in")) & nothing() - "old", "old" & nothing()),
            ("kept", shelf("old"), at("out"))))
        self.assertEqual(room.used_by("old"), (("vow", "far"), ("vow", "kept")))
        self.broken(room, lambda: room.__setitem__("old", below("in")), "kept", ("in", True, None, None), ("file",))
        room.undo()
        self.assertEqual(room.vows[1], ("kept", shelf("new"), at("out")))

    def test_vows_do_not_count_as_conditions_of_shelves(self):
        room = Room(FIELDS)
        row = nothing() & nothing() & nothing() & nothing()
        row = row & row & row & row
        for name in "abc":
            room[name] = row
        row = nothing() & nothing() & nothing() & nothing() & nothing() & nothing()
        for name in "abcd":
            room.vow(name, row & row, row & row)
        room["d"] = row & row

    def test_as_long_as_a_vow_stands_no_run_leads_there(self):
        room = example()
        for change in (
                lambda: room.set_move("a", Move(at("in/new"), to="in")),
                lambda: room.set_move("b", Move(at("in") & least("size", 2), on=("red",))),
                lambda: room.set_move("c", Move(marked("red"), to="in")),
                lambda: room.set_move("d", Move(everything(), off=("red",))), room.undo, room.redo,
                lambda: room.__setitem__("new", at("in/new")), lambda: room.__setitem__("new", nothing())):
            try:
                change()
            except Broken as error:
                self.assertEqual(error.name, "kept")
            kept = room.kept()
            for name, one, other in room.vows:
                self.assertEqual(can(kept, kept.group(one), kept.group(other))[0], "never")

    def test_the_largest_fields(self):
        room = Room(LARGEST)
        room["low"] = below("a") & least("i", 50)
        room.set_move("go", Move(shelf("low") & marked("e"), to="d"))
        room.vow("v", below("a") - marked("e"), at("d") & least("i", 1) & marked("h"))
        with self.assertRaises(Broken) as caught:
            room.set_move("on", Move(least("j", 99), on=("e",)))
        self.assertEqual((caught.exception.value.key, caught.exception.run), (
            ("a", False, False, False, True, 50, 99, None, None), ("on", "go")))


class BlocksTest(VowCase):
    def test_each_deed_of_a_batch_is_looked_at(self):
        room = example()
        with self.assertRaises(Broken):
            with room.batch():
                room.set_move("tag", Move(at("in"), on=("red",)))
                room.drop_move("file")
        self.assertEqual(room.kept().move_names, ("file",))
        with room.batch():
            room.drop_move("file")
            room.set_move("tag", Move(at("in"), on=("red",)))
        self.assertEqual(room.kept().move_names, ("tag",))

    def test_vows_of_a_trial_and_of_a_batch(self):
        room = example()
        with room.trial():
            room.unvow("kept")
            room.set_move("tag", Move(at("in"), on=("red",)))
        self.assertEqual(([vow[0] for vow in room.vows], room.kept().move_names), (["kept"], ("file",)))
        with room.batch():
            room.unvow("kept")
            room.set_move("tag", Move(at("in"), on=("red",)))
            self.assertEqual(room.vows, ())
            self.assertEqual(room.used_by("new"), ())
        room.undo()
        self.assertEqual([vow[0] for vow in room.vows], ["kept"])


if __name__ == "__main__":
    unittest.main()

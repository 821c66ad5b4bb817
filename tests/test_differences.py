"""Section 16: what was looked at, who came and who went."""

import unittest

from helper import FIELDS, any_values
from test_room import RoomCase, example, fuller
from wishshelves.errors import BadPlace, NoShelf, NoWatch, ShelfError, Taken
from wishshelves.moves import Move
from wishshelves.room import Room
from wishshelves.searches import at, below, everything, filled, least, marked, nothing, shelf


def three():
    """Return a room with three entries, in, in/new and out, and the shelves low, red and all."""
    room = Room(FIELDS)
    for folder in FIELDS.folders:
        room.add(FIELDS.made(folder))
    room["low"] = below("in")
    room["red"] = marked("red") & "low"
    room["all"] = everything()
    return room


class LookedTest(RoomCase):
    def test_the_example_of_the_document(self):
        room = example()
        room.watch("new")
        self.assertEqual(room.looked(), ())
        room[0].put("red")
        self.assertEqual([room.notices(), room.looked()], [((7, "new", 0, False),), ((0, "new"),)])
        room[0]["size"] = 3
        self.assertEqual(room.looked(), ())

    def test_new_entries_and_shelves(self):
        room = Room(FIELDS)
        room["low"] = below("in")
        self.assertEqual(room.looked(), ())
        room["all"] = everything()
        room.add(FIELDS.made("out"))
        self.assertEqual(room.looked(), ((0, "all"), (0, "low")))
        room.add(FIELDS.made("out"))
        self.assertEqual(room.looked(), ((1, "all"), (1, "low")))
        room["red"] = marked("red")
        self.assertEqual(room.looked(), ((0, "red"), (1, "red")))
        room.take_out(0)
        self.assertEqual(room.looked(), ())

    def test_fields_that_matter(self):
        room = three()
        for change, looked in (
                (lambda: room[0].put("red"), ((0, "red"),)), (lambda: room[0].lay("in"), ()),
                (lambda: room[2].lay("in"), ((2, "low"), (2, "red"))), (lambda: room[1].__setitem__("size", 2), ()),
                (lambda: room[1].give(FIELDS.made("out", "red", size=0)), ((1, "low"), (1, "red"))),
                (lambda: room[1].give(room[1].item), ()), (lambda: room[1].put(), ())):
            change()
            self.assertEqual(room.looked(), looked)

    def test_folders_that_make_no_difference_matter_all_the_same(self):
        room = three()
        room["low"] = below("in")
        # in and in/new are both on the shelf: but the folder matters to it.
        room[0].lay("in/new")
        self.assertEqual(room.looked(), ((0, "low"), (0, "red")))

    def test_the_group_decides_and_not_the_search(self):
        room = three()
        room["low"] = at("in") | at("in/new") | nothing()
        self.assertEqual(room.looked(), ())
        room["low"] = at("in") & everything()
        self.assertEqual(room.looked(), ((0, "low"), (0, "red"), (1, "low"), (1, "red"), (2, "low"), (2, "red")))
        room["red"] = marked("red") & at("in")
        self.assertEqual(room.looked(), ())
        room["all"] = filled("kind") | ~filled("kind")
        self.assertEqual(room.looked(), ())
        room[0]["kind"] = "note"
        self.assertEqual(room.looked(), ())

    def test_names_make_no_difference_but_another_shelf_does(self):
        room = three()
        room.rename("low", "deep")
        self.assertEqual(room.looked(), ())
        room.drop("red")
        self.assertEqual(room.looked(), ())
        room["red"] = marked("red") & "deep"
        self.assertEqual(room.looked(), ((0, "red"), (1, "red"), (2, "red")))
        with room.batch():
            room.drop("red")
            room["red"] = marked("red") & "deep"
        self.assertEqual(room.looked(), ((0, "red"), (1, "red"), (2, "red")))
        with room.batch():
            room.rename("red", "x")
            room.rename("deep", "red")
            room.rename("x", "deep")
            room[2].put("red")
        self.assertEqual(room.looked(), ((2, "deep"),))
        room.undo()
        self.assertEqual(room.looked(), ((2, "red"),))

    def test_moves_watches_and_vows(self):
        room = three()
        room[0].put("red")
        for change in (
                lambda: room.set_move("go", Move(shelf("low"), to="out")), lambda: room.watch("low"),
                lambda: room.vow("v", nothing(), nothing()), lambda: room.unvow("v"), lambda: room.unwatch("low"),
                lambda: room.drop_move("go")):
            change()
            self.assertEqual(room.looked(), ())
        room.set_move("go", Move(shelf("low"), to="out"))
        room.move_entry(0, "go")
        self.assertEqual(room.looked(), ((0, "low"), (0, "red")))

    def test_undo_and_redo(self):
        room = three()
        room[0].put("red")
        room.undo()
        self.assertEqual(room.looked(), ((0, "red"),))
        room.redo()
        self.assertEqual(room.looked(), ((0, "red"),))
        room.take_out(0)
        room.undo()
        self.assertEqual(room.looked(), ((0, "all"), (0, "low"), (0, "red")))
        room.drop("all")
        room.undo()
        self.assertEqual(room.looked(), ((0, "all"), (1, "all"), (2, "all")))
        room.undo()
        self.assertEqual(room.looked(), ((0, "red"),))
        room["low"] = nothing()
        room.undo()
        self.assertEqual(len(room.looked()), 6)

    def test_a_batch_as_a_whole(self):
        room = three()
        with room.batch():
            room[0].put("red")
            room[0].drop("red")
        self.assertEqual(room.looked(), ())
        with room.batch():
            room[0].put("red")
            self.assertEqual(room.looked(), ())
            room.take_out(1)
            room.add(FIELDS.made("in"))
            room["low"] = nothing()
            room["low"] = below("in")
        self.assertEqual(room.looked(), ((0, "red"), (3, "all"), (3, "low"), (3, "red")))

    def test_refused_calls_leave_it(self):
        room = three()
        room[0].put("red")
        for call in (lambda: room.add(None), lambda: room.__setitem__("low", at("zzz")), lambda: room.drop("low")):
            self.assertRaises(ShelfError, call)
            self.assertEqual(room.looked(), ((0, "red"),))

    def test_what_was_not_looked_at_is_as_it_was(self):
        room = three()
        room["size"] = least("size", 2) ^ "red"
        for change in (
                lambda: room[0].put("red"), lambda: room[2].lay("in/new"), lambda: room[1].__setitem__("size", 3),
                lambda: room.__setitem__("low", at("in")), lambda: room.rename("low", "x"), room.undo, room.undo):
            before = {(number, name) for name in room.kept().names for number in room.members(name)}
            names = room.kept().names
            change()
            after = {(number, name) for name in room.kept().names for number in room.members(name)}
            if names == room.kept().names:
                self.assertTrue(before ^ after <= set(room.looked()))


class WatchTest(RoomCase):
    def test_watches(self):
        room = three()
        self.assertIsNone(room.watch("red"))
        self.assertIsNone(room.watch(name="low"))
        self.assertEqual((room.watches, room.deeds), (("low", "red"), 8))
        room.rename("red", "aaa")
        self.assertEqual(room.watches, ("aaa", "low"))
        self.assertIsNone(room.unwatch(name="low"))
        self.assertEqual(room.watches, ("aaa",))
        room.drop("aaa")
        self.assertEqual(room.watches, ())
        room["aaa"] = at("in")
        self.assertEqual(room.watches, ())
        room.watch("aaa")
        room.undo()
        room.undo()
        room.undo()
        self.assertEqual(room.watches, ("aaa",))
        room.undo()
        self.assertEqual(room.watches, ("aaa", "low"))

    def test_wrong_names(self):
        room = three()
        room.watch("low")
        for value in [*any_values(), 0, "zzz", ("low",)]:
            self.refused(NoShelf, {"value": value}, room, lambda: room.watch(value))
            self.refused(NoWatch, {"value": value}, room, lambda: room.unwatch(value))
        self.refused(Taken, {"value": "low"}, room, lambda: room.watch("low"))
        self.refused(NoWatch, {"value": "red"}, room, lambda: room.unwatch("red"))
        room.rename("low", "deep")
        self.refused(NoWatch, {"value": "low"}, room, lambda: room.unwatch("low"))
        self.refused(Taken, {"value": "deep"}, room, lambda: room.watch("deep"))


class NoticesTest(RoomCase):
    def test_came_and_went(self):
        room = three()
        room.watch("low")
        room.watch("red")
        self.assertEqual(room.notices(), ())
        room[0].put("red")
        room[1].lay("out")
        room.take_out(0)
        room.add(FIELDS.made("in", "red"))
        room["red"] = marked("red") | at("out")
        self.assertEqual(room.notices(), (
            (9, "red", 0, True), (10, "low", 1, False), (11, "low", 0, False), (11, "red", 0, False),
            (12, "low", 3, True), (12, "red", 3, True), (13, "red", 1, True), (13, "red", 2, True)))
        self.assertIsInstance(room.notices(), tuple)
        self.assertEqual(room.notices(6), room.notices(since=0)[6:])

    def test_watched_ahead_and_behind(self):
        room = three()
        with room.batch():
            room.watch("low")
            room[0].lay("out")
        self.assertEqual(room.notices(), ())
        with room.batch():
            room.unwatch("low")
            room[0].lay("in")
            room.watch("low")
        self.assertEqual(room.notices(), ((8, "low", 0, True),))
        with room.batch():
            room[0].lay("out")
            room.unwatch("low")
        self.assertEqual(len(room.notices()), 1)
        room.undo()
        self.assertEqual(len(room.notices()), 1)

    def test_by_the_name_behind(self):
        room = three()
        room.watch("low")
        with room.batch():
            room[2].lay("in")
            room.rename("low", "zzz")
            room["low"] = at("out")
            room[1].lay("out")
        self.assertEqual(room.notices(), ((8, "zzz", 1, False), (8, "zzz", 2, True)))
        room.undo()
        self.assertEqual(room.notices(2), ((7, "low", 1, True), (7, "low", 2, False)))
        room.redo()
        self.assertEqual(room.notices(4), ((8, "zzz", 1, False), (8, "zzz", 2, True)))

    def test_dropped_and_set_again(self):
        room = three()
        room.watch("all")
        room.drop("all")
        room["all"] = nothing()
        room[0].put("red")
        self.assertEqual((room.notices(), room.watches), ((), ()))
        for number in range(3):
            room.undo()
        self.assertEqual((room.watches, room["all"]), (("all",), everything()))
        with room.batch():
            room.drop("all")
            room["all"] = nothing()
            room.watch("all")
        self.assertEqual((room.notices(), room.watches), ((), ("all",)))

    def test_undo_and_redo_take_none_back(self):
        room = three()
        room.watch("low")
        room[0].lay("out")
        room.undo()
        room.redo()
        room.undo()
        room[2].lay("in")
        self.assertEqual(room.notices(), (
            (8, "low", 0, False), (7, "low", 0, True), (8, "low", 0, False), (7, "low", 0, True), (8, "low", 2, True)))
        room.undo()
        room.undo()
        self.assertEqual((room.watches, len(room.notices())), ((), 6))

    def test_refused_calls_give_none(self):
        room = fuller()
        many = room.notices()
        self.assertTrue(many)
        for call in (lambda: room.add(None), lambda: room.drop("new"), lambda: room.watch("new"),
                     lambda: room.__setitem__("new", shelf("big"))):
            self.assertRaises(ShelfError, call)
            self.assertEqual(room.notices(), many)

    def test_bad_place(self):
        room = three()
        room.watch("low")
        for number in range(3):
            room[number].lay("out" if number < 2 else "in")
        self.assertEqual([len(room.notices(since)) for since in range(4)], [3, 2, 1, 0])
        for value in [*any_values(), 4, -1, "0", "1", 1.0, (1,), [1]]:
            self.refused(BadPlace, {"value": value}, room, lambda: room.notices(value))
            self.refused(BadPlace, {"value": value}, room, lambda: room.notices(since=value))
        empty = Room(FIELDS)
        self.assertEqual(empty.notices(0), ())
        self.refused(BadPlace, {"value": 1}, empty, lambda: empty.notices(1))

    def test_notices_lead_from_the_beginning_to_the_end(self):
        room = three()
        room.watch("red")
        here = set(room.members("red"))
        for change in (
                lambda: room[0].put("red"), lambda: room[1].put("red"), lambda: room.rename("red", "x"), room.undo,
                lambda: room.__setitem__("low", at("in/new")), lambda: room.take_out(1), room.undo, room.undo,
                room.redo, lambda: room.add(FIELDS.made("in/new", "red"))):
            since = len(room.notices())
            change()
            for deed, name, number, came in room.notices(since):
                self.assertEqual((deed, name, number in here), (room.deeds, room.watches[0], not came))
                here = here | {number} if came else here - {number}
            self.assertEqual(tuple(sorted(here)), room.members(room.watches[0]))


if __name__ == "__main__":
    unittest.main()

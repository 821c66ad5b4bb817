"""Section 21: the desk."""

import unittest

from helper import any_values
from test_journals import HEAD, with_all_deeds
from test_room import example, fuller, told
from wishshelves.desk import Desk
from wishshelves.errors import (
    BadItem, BadLine, BadName, BadRing, Broken, InUse, NoEntry, NoFolder, NoLine, NoMove, NoShelf, NothingToRedo,
    NothingToUndo, NoVow, NoWatch, Taken)
from wishshelves.journals import read_journal
from wishshelves.room import Room

LINES = (
    "add folder=in red=yes size=2 kind=-", "add folder=in/new red=no size=- kind=note",
    "shelf new below in & ~marked red", "shelf big size >= 2", "shelf none nothing",
    "move file out - - - in in & marked red", "move tag - red - - shelf new & in in")


def desk_of(*lines):
    """Return a desk to which these lines were said."""
    desk = Desk(HEAD)
    for line in lines:
        desk.say(line)
    return desk


class DeskTest(unittest.TestCase):
    def answers(self, desk, *pairs):
        for line, answer in pairs:
            self.assertEqual(desk.say(line), answer, line)

    def refused(self, error, values, desk, line):
        before = told(desk.room)
        with self.assertRaises(error) as caught:
            desk.say(line)
        self.assertEqual({name: repr(value) for name, value in vars(caught.exception).items()},
                         {name: repr(value) for name, value in values.items()})
        self.assertEqual(told(desk.room), before)

    def test_the_room(self):
        room = example()
        desk = Desk(text=room.journal())
        self.assertIsInstance(desk.room, Room)
        self.assertEqual(told(desk.room), told(room))
        self.assertEqual(desk.say(line="take_out 0"), "ok")
        self.assertEqual((desk.room.numbers, room.numbers), ((1,), (0, 1)))

    def test_a_wrong_journal(self):
        for value in any_values():
            if isinstance(value, str):
                continue
            with self.assertRaises(BadLine) as caught:
                Desk(value)
            self.assertEqual(caught.exception.number, -1)
        for text, number in (("", 1), ("deeds", 0), (HEAD + "\nzzz", 5), (HEAD + "\nbatch 1", 6)):
            with self.assertRaises(BadLine) as caught:
                Desk(text)
            self.assertEqual(caught.exception.number, number)
        self.assertRaises(NoEntry, Desk, HEAD + "\ntake_out 0")

    def test_every_deed(self):
        room = with_all_deeds()
        lines = room.journal().split("\n")
        desk = Desk("\n".join(lines[:7]))
        found = [desk.say(line) for line in lines[7:]]
        self.assertEqual(found, ["0", "1"] + ["ok"] * (len(lines) - 9))
        self.assertTrue(desk.room == room)
        self.assertEqual(desk.room.journal(), room.journal())

    def test_numbers(self):
        item = "add folder=in red=no size=- kind=-"
        self.answers(
            desk_of(), (item, "0"), (item, "1"), ("undo", "ok"), (item, "1"), ("take_out 1", "ok"), (item, "2"))

    def test_undo_and_redo(self):
        desk = desk_of(*LINES)
        self.answers(desk, ("undo", "ok"), ("undo", "ok"), ("redo", "ok"), ("many new", "30"))
        self.refused(NoMove, {"value": "tag"}, desk, "drop_move tag")
        self.answers(desk, ("redo", "ok"))
        self.refused(NothingToRedo, {}, desk, "redo")
        self.refused(NothingToUndo, {}, desk_of(), "undo")

    def test_entries(self):
        desk = desk_of(*LINES)
        self.answers(
            desk, ("item 0", "folder=in red=yes size=2 kind=-"), ("item 1", "folder=in/new red=no size=- kind=note"),
            ("on 0", "big"), ("on 1", "new"), ("set 0 folder=in red=no size=3 kind=list", "ok"), ("on 0", "big new"),
            ("item 0", "folder=in red=no size=3 kind=list"), ("set 1 folder=out red=no size=0 kind=-", "ok"),
            ("on 1", "-"), ("members big", "0"), ("members none", "-"), ("members new", "0"),
            ("add folder=in red=no size=- kind=-", "2"), ("members new", "0 2"))
        for line in ("item 7", "on 7", "take_out 7", "set 7 a=b", "lead 7 zzz"):
            self.refused(NoEntry, {"value": 7}, desk, line)
        self.refused(BadItem, {"value": "a=b"}, desk, "set 0 a=b")
        self.refused(BadItem, {"value": "folder=in red=no size=-"}, desk, "add folder=in red=no size=-")

    def test_shelves(self):
        desk = desk_of(*LINES)
        self.answers(
            desk, ("many new", "30"), ("many big", "36"), ("many none", "0"), ("least none", "-"),
            ("least new", "folder=in red=no size=- kind=-"), ("least big", "folder=in red=no size=2 kind=-"),
            ("apart new new", "alike"), ("apart new big", "folder=in red=no size=- kind=-"),
            ("apart big none", "folder=in red=no size=2 kind=-"), ("shelf copy shelf new", "ok"),
            ("apart copy new", "alike"))
        for line in ("members zzz", "many zzz", "least zzz", "apart zzz new", "apart new zzz", "can zzz yyy",
                     "can new zzz", "recipe zzz yyy", "recipe new zzz", "lead 0 zzz", "drop zzz", "watch zzz"):
            self.refused(NoShelf, {"value": "zzz"}, desk, line)

    def test_runs_and_recipes(self):
        desk = desk_of(*LINES, "shelf out in out", "shelf in in in", "shelf redin in in & marked red")
        self.answers(
            desk, ("can new out", "2: tag file"), ("can redin out", "1: file"), ("can new new", "0:"),
            ("can out new", "never"), ("can none new", "never"), ("can new none", "never"),
            ("recipe in out", "tag file"), ("recipe redin out", "file"), ("recipe new new", "-"),
            ("recipe new out", "none"), ("recipe none none", "-"), ("recipe out in", "none"))

    def test_too_many(self):
        desk = Desk("\n".join([
            "folders a b c", "marks e f g h", "number i 9", "number j 9", "kind k x y z", "kind l x y z", "deeds",
            "shelf all everything", "shelf none nothing"]))
        for number, move in enumerate((
                "b - - - in a", "a e - - in b & marked f", "- f - - ~in c & filled i", "c - e k=x marked e | marked g",
                "- g f i=3 filled k", "a - g k=-,i=- i >= 3 | marked h")):
            desk.say(f"move {'pqrstu'[number]} {move}")
        self.assertEqual(desk.say("recipe all none"), "too many")
        self.assertEqual(desk.say("recipe none none"), "-")

    def test_lead(self):
        desk = desk_of(*LINES)
        self.answers(
            desk, ("lead 0 big", "folder=in red=yes size=2 kind=-"),
            ("lead 1 big", "folder=in/new red=no size=2 kind=note"),
            ("lead 0 new", "folder=in red=no size=2 kind=-"), ("lead 0 none", "-"))

    def test_looked(self):
        desk = desk_of(*LINES)
        self.answers(
            desk, ("looked", "-"), ("set 0 folder=out red=no size=2 kind=-", "ok"), ("looked", "0 new"),
            ("shelf big size >= 3", "ok"), ("looked", "0 big, 1 big"),
            ("add folder=in red=no size=- kind=-", "2"), ("looked", "2 big, 2 new, 2 none"), ("undo", "ok"),
            ("looked", "-"))
        self.answers(desk_of(), ("looked", "-"))

    def test_questions_are_no_deeds(self):
        desk = desk_of(*LINES)
        before = told(desk.room)
        for line in ("item 0", "on 0", "members new", "many new", "least new", "apart new big", "can new big",
                     "recipe new big", "lead 0 new", "looked"):
            self.assertIsInstance(desk.say(line), str)
            self.assertEqual(told(desk.room), before)

    def test_errors_of_the_room(self):
        desk = desk_of(*LINES, "vow kept in in/new : in out", "watch new")
        self.refused(BadRing, {"ring": ("new",)}, desk, "shelf new ~shelf new")
        self.refused(NoFolder, {"value": "zzz"}, desk, "shelf new in zzz")
        self.refused(InUse, {"users": (("move", "tag"),)}, desk, "drop new")
        self.refused(Taken, {"value": "big"}, desk, "rename new big")
        self.refused(Taken, {"value": "new"}, desk, "watch new")
        self.refused(Taken, {"value": "kept"}, desk, "vow kept in in : in in")
        self.refused(NoWatch, {"value": "big"}, desk, "unwatch big")
        self.refused(NoVow, {"value": "new"}, desk, "unvow new")
        with self.assertRaises(Broken) as caught:
            desk.say("move up in - - - in in/new")
        self.assertEqual((caught.exception.name, caught.exception.value.key, caught.exception.run),
                         ("kept", ("in/new", True, None, None), ("up", "file")))

    def test_no_line(self):
        desk = desk_of(*LINES)
        for value in [
                *any_values(), 0, "batch 0", "batch 1", "deeds", "folders in", "undo ", " undo", "undo 1", "Undo",
                "redo 1", "looked ", "looked 0", "item", "item ", "item x", "item 00", "item -1", "item 1000000000",
                "item 0 ",
                "item 0 1", "item  0", "on", "on new", "members", "members 0", "members New", "members new big",
                "many", "many new ", "least", "least new new", "apart new", "apart new big new", "apart  new big",
                "can new", "can new big none", "recipe", "recipe new", "recipe new 0", "lead", "lead 0", "lead new 0",
                "lead 0 new new", "lead 00 new", "add", "add folder", "take_out", "take_out 01", "set 0", "shelf a",
                "shelf a zzz", "drop", "drop A", "rename a", "move a - - - in in", "drop_move", "watch", "unwatch a b",
                "vow a in in", "unvow", "undo\n", "\nundo", "undo\nundo", "item 0\n", "say", "journal", "trial",
                "add folder=in red=no size=100 kind=-", ["undo"], ("undo",), {"undo": 1}]:
            with self.assertRaises(NoLine) as caught:
                desk.say(value)
            self.assertIs(caught.exception.value, value)
        self.assertTrue(desk.room == desk_of(*LINES).room)
        self.assertEqual(desk.room.deeds, 7)

    def test_a_name_that_is_no_name_is_no_line(self):
        desk = desk_of(*LINES)
        for line in ("shelf A in in", "rename new A", "watch A"):
            self.assertRaises(NoLine, desk.say, line)
        self.assertRaises(BadName, desk.room.rename, "new", "A")

    def test_the_journal_of_a_desk(self):
        desk = Desk(fuller().journal())
        desk.say("add folder=in red=no size=- kind=-")
        desk.say("undo")
        self.assertEqual(desk.room.journal(), fuller().journal())
        self.assertTrue(read_journal(desk.room.journal()) == desk.room)


if __name__ == "__main__":
    unittest.main()

"""Section 20, its second half: journals."""

import unittest

from helper import FIELDS, WIDE, any_values
from test_room import example, fuller, told
from test_texts import EVERY_FIELDS
from wishshelves.errors import (
    BadItem, BadLine, BadRing, Broken, InUse, NoEntry, NoFolder, NoMark, NoMove, NoShelf, NoVow, NoWatch, ShelfError,
    Taken, TooMany, Undone)
from wishshelves.journals import read_journal
from wishshelves.moves import Move
from wishshelves.room import Room
from wishshelves.searches import at, below, least, marked, said, shelf
from wishshelves.texts import show_fields

HEAD = "folders in in/new out\nmarks red\nnumber size 3\nkind kind note list\ndeeds"


def with_all_deeds():
    """Return a room with every deed there is."""
    room = Room(WIDE)
    room.add(WIDE.made("a", "red", size=2, kind="ant"))
    room.add(WIDE.made("b"))
    room["low"] = below("a") & ~marked("red")
    room["x"] = shelf("low") ^ (least("age", 1) | said("tone", "zzz"))
    room.set_move("go", Move(shelf("x") | at("a"), to="b", on=("red", "blue"), sets=(("tone", "low"), ("size", None))))
    room.set_move("off", Move(at("b"), off=("red",), sets=(("age", 0),)))
    room.move_entry(0, "go")
    room.watch("low")
    room.vow("kept", shelf("low") & at("a/b/c"), at("a/b") | "low" & marked("red"))
    room.rename("low", "deep")
    room[1].put("red", "blue")
    room[1].drop("red")
    room[1].lay("a/b")
    room[1]["size"] = 0
    room[1] = WIDE.made("a/b/c", "blue")
    room[1].give(WIDE.made("a"))
    room.take_out(0)
    room.unvow("kept")
    room.unwatch("deep")
    room.drop_move("off")
    room.drop_move("go")
    room.drop("x")
    return room


class JournalTest(unittest.TestCase):
    def test_the_example_of_the_document(self):
        room = example()
        self.assertEqual(room.journal().split("\n"), [
            *show_fields(FIELDS).split("\n"), "deeds", "add folder=in red=yes size=2 kind=-",
            "add folder=in/new red=no size=- kind=note", "shelf new below in & ~marked red",
            "set 0 folder=in red=no size=2 kind=-", "set 1 folder=out red=no size=- kind=note"])

    def test_a_room_without_deeds(self):
        for fields in EVERY_FIELDS:
            self.assertEqual(Room(fields).journal(), show_fields(fields) + "\ndeeds")
            self.assertTrue(read_journal(Room(fields).journal()) == Room(fields))

    def test_every_deed(self):
        self.assertEqual(with_all_deeds().journal().split("\n")[7:], [
            "add folder=a red=yes blue=no size=2 age=- kind=ant tone=-",
            "add folder=b red=no blue=no size=- age=- kind=- tone=-",
            "shelf low below a & ~marked red", "shelf x shelf low ^ (age >= 1 | tone is zzz)",
            "move go b red,blue - tone=low,size=- shelf x | in a", "move off - - red age=0 in b",
            "set 0 folder=b red=yes blue=yes size=- age=- kind=ant tone=low", "watch low",
            "vow kept shelf low & in a/b/c : in a/b | shelf low & marked red", "rename low deep",
            "set 1 folder=b red=yes blue=yes size=- age=- kind=- tone=-",
            "set 1 folder=b red=no blue=yes size=- age=- kind=- tone=-",
            "set 1 folder=a/b red=no blue=yes size=- age=- kind=- tone=-",
            "set 1 folder=a/b red=no blue=yes size=0 age=- kind=- tone=-",
            "set 1 folder=a/b/c red=no blue=yes size=- age=- kind=- tone=-",
            "set 1 folder=a red=no blue=no size=- age=- kind=- tone=-", "take_out 0", "unvow kept", "unwatch deep",
            "drop_move off", "drop_move go", "drop x"])

    def test_batches_and_trials(self):
        room = example()
        with room.batch():
            room.add(FIELDS.made("in"))
            room[2].put("red")
        with room.batch():
            pass
        with room.trial() as trial:
            trial.keep()
            room.take_out(2)
            room.batched(lambda here: here.watch("new"))
        with room.trial():
            room.take_out(0)
        self.assertEqual(room.journal().split("\n")[10:], [
            "batch 2", "add folder=in red=no size=- kind=-", "set 2 folder=in red=yes size=- kind=-", "batch 0",
            "take_out 2", "batch 1", "watch new"])
        other = read_journal(room.journal())
        self.assertEqual((other.deeds, other == room, other.journal()), (9, True, room.journal()))
        for number in range(4):
            other.undo()
        self.assertTrue(other == example())
        other.redo()
        self.assertEqual((other.numbers, other[2].item.key, other.deeds), ((0, 1, 2), ("in", True, None, None), 6))


class ReadTest(unittest.TestCase):
    def test_rooms_are_read_back(self):
        for room in (Room(FIELDS), example(), fuller(), with_all_deeds()):
            other = read_journal(text=room.journal())
            self.assertIsInstance(other, Room)
            self.assertTrue(other == room)
            self.assertEqual((other.journal(), other.deeds), (room.journal(), room.deeds))
            self.assertEqual(other.add(other.fields.item_of(room.fields.everything.least.key)),
                             room.copy().add(room.fields.everything.least))

    def test_it_has_done_these_deeds(self):
        room, other = example(), read_journal(example().journal())
        self.assertEqual(told(other), told(room))
        for number in range(5):
            room.undo()
            other.undo()
            self.assertEqual(told(other), told(room))
        self.assertTrue(other == Room(FIELDS))

    def bad_line(self, text, number):
        with self.assertRaises(BadLine) as caught:
            read_journal(text)
        self.assertEqual(caught.exception.number, number)

    def test_what_is_no_string(self):
        for value in any_values():
            if isinstance(value, str):
                self.bad_line(value, len(value.split("\n")))
            else:
                self.bad_line(value, -1)
        self.bad_line(7, -1)
        self.bad_line(HEAD.split("\n"), -1)

    def test_no_line_deeds(self):
        for text in ("", "\n", "folders in", "folders in\ndeeds ", "folders in\n deeds", "folders in\nDeeds",
                     "folders in\nadd folder=in", show_fields(FIELDS), "\n\n\n", "deeds x"):
            self.bad_line(text, text.count("\n") + 1)

    def test_no_fields(self):
        for text in ("deeds", "\ndeeds", "folders\ndeeds", "folders in \ndeeds", "folders in\n\ndeeds", "zzz\ndeeds",
                     "folders in\nmarks red red\ndeeds", "folders in\nadd folder=in\ndeeds", "deeds\nfolders in\ndeeds",
                     "folders out in\ndeeds\nzzz", "folders in\nshelf a in in\ndeeds"):
            self.bad_line(text, 0)

    def test_lines_that_are_not_of_their_form(self):
        for line in (
                "", " ", "zzz", "add", "add ", "add folder", "add folder=", "add =in", "add folder=In", "add Folder=in",
                "add folder=in ", "add  folder=in", "add folder=in  red=no", "add folder=in size=100",
                "add folder=in size=01", "add folder=in size=-1", "add folder=a/b/c/d", "add abcdefghi=in",
                "add folder=in=in", "add folder=in,red=no", "add folder=in\tred=no", " add folder=in", "Add folder=in",
                "take_out", "take_out ", "take_out x", "take_out -1", "take_out 01", "take_out 1000000000",
                "take_out 1 2", "take_out 1 ", "take_out +1", "take_out \u0661", "take_out 1.", "set", "set 0",
                "set 0 ", "set folder=in", "set 00 folder=in", "set 0  folder=in", "set 1000000000 folder=in",
                "shelf", "shelf a",
                "shelf a ", "shelf A in in", "shelf a in  in", "shelf a (in in)", "shelf a zzz", "shelf a in in ",
                "shelf a size >= 100", "shelf a in in &", "shelf a/b in in", "shelf a " + " | ".join(["in in"] * 17),
                "drop", "drop ", "drop A", "drop a b", "drop a ", "rename a", "rename a b c", "rename a  b",
                "rename a B", "rename a b ", "move a", "move a - - - in in", "move a - - - - ", "move a - - - - in  in",
                "move A - - - - in in", "move a A - - - in in", "move a - red,red - - in in", "move a - , - - in in",
                "move a - red red - in in", "move a - - - size=100 in in", "move a - - - size=01 in in",
                "move a - - - size in in", "move a - - - size=1,size=2 in in", "move a - - - size=A in in",
                "move a  - - - in in", "move a - - - - - in in", "drop_move", "drop_move A", "drop_move a b", "watch",
                "watch A", "watch a b", "unwatch", "unwatch a ", "vow", "vow a", "vow a in in", "vow a in in :",
                "vow a in in : ", "vow a : in in", "vow a in in:in in", "vow a in in :  in in", "vow a in in : zzz",
                "vow a zzz : in in",
                "vow a in in : in in : in in", "vow A in in : in in", "unvow", "unvow A", "undo", "redo", "deeds",
                "batch", "batch ", "batch x", "batch -1", "batch 01", "batch 1000000000", "batch 0 0", "item 0",
                "looked",
                "folders in", "trial", "batch 1 add folder=in"):
            self.bad_line(f"{HEAD}\n{line}", 5)
            self.bad_line(f"{HEAD}\nadd folder=zzz\n{line}\nzzz", 6)
            self.bad_line(f"{HEAD}\nbatch 2\nadd folder=zzz\n{line}\nzzz", 7)
            self.bad_line(f"{HEAD}\nbatch 0\n{line}", 6)
        self.bad_line(HEAD + "\n", 5)
        self.bad_line(example().journal() + "\n", 10)

    def test_forms_that_no_room_here_can_do(self):
        for line, error in (
                ("add a=b", BadItem), ("add size=99 zzz=a/b/c a=- a=-", BadItem), ("take_out 999999999", NoEntry),
                ("set 0 zzz=0", NoEntry), ("shelf a in zzz/y", NoFolder), ("drop yes", NoShelf),
                ("rename a a", NoShelf), ("move a zzz blue red zzz=99 everything", NoFolder),
                ("move a - blue,pink - - everything", NoMark),
                ("drop_move a", NoMove), ("watch a", NoShelf), ("unwatch a", NoWatch), ("unvow a", NoVow),
                ("vow a shelf b : in zzz", NoShelf), ("vow a everything : everything", Broken)):
            with self.assertRaises(error):
                read_journal(f"{HEAD}\n{line}")
            self.bad_line(f"{HEAD}\n{line}\nzzz", 6)

    def test_lines_of_a_batch_are_missing(self):
        self.bad_line(f"{HEAD}\nbatch 1", 6)
        self.bad_line(f"{HEAD}\nbatch 999999999", 6)
        self.bad_line(f"{HEAD}\nbatch 3\nadd folder=zzz\ntake_out 7", 8)
        self.bad_line(f"{HEAD}\nbatch 3\nadd folder=zzz\nzzz", 7)
        self.bad_line(f"{HEAD}\nbatch 2\nadd a=b\nbatch 0", 7)
        self.bad_line(f"{HEAD}\nbatch 2\nbatch 1\nadd a=b", 6)
        self.bad_line(f"{HEAD}\nadd folder=zzz\nbatch 0\nbatch 1", 8)
        self.assertEqual(read_journal(f"{HEAD}\nbatch 0\nbatch 0").deeds, 2)

    def raised(self, error, values, *lines):
        with self.assertRaises(error) as caught:
            read_journal("\n".join([HEAD, *lines]))
        self.assertEqual({name: repr(value) for name, value in vars(caught.exception).items()},
                         {name: repr(value) for name, value in values.items()})

    def test_what_the_first_deed_raises(self):
        item = "folder=in red=no size=- kind=-"
        for text in ("folder=new red=no size=- kind=-", "folder=in red=no size=-", "folder=in red=no size=4 kind=-",
                     "red=no folder=in size=- kind=-", "a=b", "folder=in red=no size=- kind=zzz"):
            self.raised(BadItem, {"value": text}, "add " + text, "take_out 7")
            self.raised(NoEntry, {"value": 0}, "set 0 " + text, "take_out 7")
            self.raised(BadItem, {"value": text}, "add " + item, "set 0 " + text)
        self.raised(NoEntry, {"value": 1}, "add " + item, "take_out 1", "add a=b")
        self.raised(BadRing, {"ring": ("a",)}, "shelf a shelf a")
        self.raised(InUse, {"users": (("shelf", "b"),)}, "shelf a in in", "shelf b shelf a", "drop a")
        self.raised(Taken, {"value": "a"}, "shelf a in in", "rename a a")
        self.raised(Taken, {"value": "a"}, "shelf a in in", "watch a", "watch a")
        self.raised(TooMany, {"most": 8}, *[f"shelf {name} in in" for name in "abcdefghi"])
        for rows in (("batch 1", "take_out 0"), ("batch 2", "add " + item, "add a=b"), ("batch 1", "set 0 a=b")):
            with self.assertRaises(Undone) as caught:
                read_journal("\n".join([HEAD, *rows]))
            self.assertIsInstance(caught.exception.value, ShelfError)
            self.assertEqual(caught.exception.value.value, 0 if rows[-1] != "add a=b" else "a=b")

    def test_numbers_and_shelves_come_as_they_came(self):
        room = read_journal("\n".join([
            HEAD, "batch 3", "add folder=in red=no size=- kind=-", "take_out 0", "add folder=out red=no size=3 kind=-",
            "shelf a in out", "watch a", "set 1 folder=in red=yes size=0 kind=list"]))
        self.assertEqual((room.numbers, room.deeds, room.watches, room.notices()),
                         ((1,), 4, ("a",), ((4, "a", 1, False),)))
        self.assertEqual((room.looked(), room[1].item.key), (((1, "a"),), ("in", True, 0, "list")))
        room.undo()
        self.assertEqual(room.members("a"), (1,))


if __name__ == "__main__":
    unittest.main()

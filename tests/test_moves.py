"""Section 11: moves, by themselves and as a Shelves keeps them."""

import unittest

from helper import FIELDS, LARGEST, SMALL, WIDE, all_items, any_values, some_moves, some_searches
from wishshelves.errors import (
    BadLaid, BadMove, BadName, BadSearch, BadValue, NoField, NoFolder, NoMark, NoMove, NoShelf, NotAllowed,
    OtherFields, TooMany)
from wishshelves.fields import Fields
from wishshelves.groups import Group
from wishshelves.items import Item
from wishshelves.moves import Move, after, before, tried
from wishshelves.searches import (
    Search, at, below, everything, filled, least, marked, nothing, said, shelf)
from wishshelves.shelves import Shelves

NEAR = Fields(FIELDS.folders, marks=FIELDS.marks, numbers=(("size", 4),), kinds=FIELDS.kinds)


class MoveTest(unittest.TestCase):
    def refused(self, value, *args, **more):
        with self.assertRaises(BadLaid) as caught:
            Move(*args, **more)
        self.assertIs(caught.exception.value, value)

    def test_attributes(self):
        search = at("in") & marked("red")
        move = Move(search, to="out", on=("b", "a"), off=("c",), sets=(("size", 2), ("kind", "note"), ("age", None)))
        self.assertIs(move.search, search)
        self.assertEqual((move.to, move.on, move.off, move.sets), (
            "out", ("b", "a"), ("c",), (("size", 2), ("kind", "note"), ("age", None))))
        move = Move(search=at("in"))
        self.assertEqual((move.search, move.to, move.on, move.off, move.sets), (at("in"), None, (), (), ()))
        for name in ("search", "to", "on", "off", "sets"):
            self.assertIn(name, vars(move))

    def test_values_that_may_be_laid(self):
        for to in (None, "a", "a/b", "a/b/c", "abcdefgh"):
            self.assertEqual(Move(at("in"), to=to).to, to)
        for names in ((), ("a",), ("b", "a"), tuple("abcdefghij")):
            self.assertEqual(Move(at("in"), on=names).on, names)
            self.assertEqual(Move(at("in"), off=names).off, names)
        for value in (None, 0, 1, 99, "a", "abcdefgh", "folder"):
            self.assertEqual(Move(at("in"), sets=(("a", value),)).sets, (("a", value),))

    def test_bad_search(self):
        for value in [*any_values(), "in", 0, ("at", "in")]:
            if not isinstance(value, Search):
                for more in ({}, {"to": value, "on": value, "off": value, "sets": value}):
                    with self.assertRaises(BadSearch) as caught:
                        Move(value, **more)
                    self.assertIs(caught.exception.value, value)

    def test_any_values(self):
        for value in [*any_values(), 0]:
            if value is not None:
                self.refused(value, at("in"), to=value)
                self.refused(value, at("in"), to=value, on=value, off=value, sets=value)
                sets = (("a", value),)
                if value != 0 or value is False:
                    self.refused(sets, at("in"), sets=sets)
            self.refused(value, at("in"), on=value)
            self.refused(value, at("in"), off=value, sets=value)
            self.refused(value, at("in"), on=value, off=value)
            self.refused(value, at("in"), sets=value)
            for names in ((value,), ("a", value)):
                self.refused(names, at("in"), on=names)
                self.refused(names, at("in"), off=names)
                if value not in (("in", 1), ("in", "in")):
                    self.refused(names, at("in"), sets=names)
            sets = ((value, 1),)
            self.refused(sets, at("in"), sets=sets)

    def test_bad_laid(self):
        for value in ("a/b/c/d", "", "A", ("in",), True, 1):
            self.refused(value, at("in"), to=value)
        for value in (("a", "a"), ["a"], "a", ("a/b",), {"a": True}, None, {}):
            self.refused(value, at("in"), on=value)
            self.refused(value, at("in"), off=value)
        for value in ((("a", 1), ("a", 2)), (("a", 1), ("a", 1)), (("a", 100),), (("a", -1),), (("a", True),),
                      (("a", False),), (("a", "B"),), (("a", ""),), (("a", "a/b"),), (("a", ["b"]),), (("a", ("b",)),),
                      [("a", 1)], (["a", 1],), (("a",),), (("a", 1, 1),), ("a", 1), {"a": 1}, "ab", ("ab",),
                      (("A", 1),)):
            self.refused(value, at("in"), sets=value)

    def test_no_mark_is_put_and_taken(self):
        self.refused(("b",), at("in"), on=("a", "b"), off=("b",))
        self.refused(("c", "a"), at("in"), on=("a", "b"), off=("c", "a"))
        self.assertEqual(Move(at("in"), on=("a",), off=("b",), sets=(("a", 1), ("b", None))).off, ("b",))

    def test_the_first_wrong_argument_is_told(self):
        to, on, off, sets = "A", ("B",), ("C",), (("D", 1),)
        self.refused(to, at("in"), to=to, on=on, off=off, sets=sets)
        self.refused(on, at("in"), on=on, off=off, sets=sets)
        self.refused(off, at("in"), off=off, sets=sets)
        self.refused(sets, at("in"), sets=sets)
        self.assertRaises(TypeError, Move, at("in"), "out")

    def test_equality(self):
        made = [
            lambda: Move(at("in")), lambda: Move(at("out")), lambda: Move(at("in"), to="in"),
            lambda: Move(at("in"), to="out"), lambda: Move(at("in"), on=("a",)), lambda: Move(at("in"), off=("a",)),
            lambda: Move(at("in"), on=("a", "b")), lambda: Move(at("in"), on=("b", "a")),
            lambda: Move(at("in"), sets=(("a", 1),)), lambda: Move(at("in"), sets=(("a", None),)),
            lambda: Move(at("in"), sets=(("a", 1), ("b", 1))), lambda: Move(at("in"), sets=(("b", 1), ("a", 1)))]
        for number, one in enumerate(made):
            for other_number, other in enumerate(made):
                self.assertIs(one() == other(), number == other_number)
                self.assertIs(one() != other(), number != other_number)
            for value in any_values():
                if not isinstance(value, Move):
                    self.assertIs(one() == value, False)
                    self.assertIs(value == one(), False)


def kept_moves():
    """Return a Shelves with the moves of the document's example, and its searches."""
    shelves = Shelves(FIELDS)
    shelves["new"] = below("in") & ~marked("red")
    shelves["big"] = least("size", 2) & "new"
    shelves.set_move("file", Move(at("in") & marked("red"), to="out"))
    shelves.set_move("tag", Move(shelf("new") & at("in"), on=("red",)))
    return shelves


class SetMoveTest(unittest.TestCase):
    def refused(self, error, told, shelves, *args):
        before_it = shelves.copy()
        with self.assertRaises(error) as caught:
            shelves.set_move(*args)
        for name, value in told.items():
            self.assertEqual(repr(getattr(caught.exception, name)), repr(value))
        self.assertTrue(shelves == before_it)
        self.assertEqual(shelves.move_names, before_it.move_names)

    def test_the_examples_of_the_document(self):
        shelves = kept_moves()
        self.assertEqual(
            [shelves.laid("tag"), shelves.moved("tag", FIELDS.made("in")).key,
             after(shelves, "file", FIELDS.everything).many],
            [(("red", True),), ("in", True, None, None), 15])
        self.assertEqual(
            [before(shelves, "tag", FIELDS.group(marked("red"))) == shelves.group(shelf("new") & at("in")),
             shelves.used_by("new")],
            [True, (("move", "tag"), ("shelf", "big"))])

    def test_moves_are_kept(self):
        shelves = Shelves(FIELDS)
        self.assertEqual(shelves.move_names, ())
        one, other = Move(at("in"), to="out"), Move(at("out"))
        shelves.set_move("zoo", one)
        self.assertIsNone(shelves.set_move(name="ant", move=other))
        self.assertEqual(shelves.move_names, ("ant", "zoo"))
        self.assertIs(shelves.move("zoo"), one)
        self.assertIs(shelves.move(name="ant"), other)
        shelves.set_move("zoo", other)
        self.assertIs(shelves.move("zoo"), other)
        self.assertIsNone(shelves.drop_move("zoo"))
        self.assertEqual(shelves.move_names, ("ant",))
        shelves.drop_move(name="ant")
        self.assertEqual((shelves.move_names, shelves == Shelves(FIELDS)), ((), True))

    def test_bad_name(self):
        shelves = kept_moves()
        for value in [*any_values(), "in/new", 0]:
            self.refused(BadName, {"value": value}, shelves, value, Move(at("in")))
            self.refused(BadName, {"value": value}, shelves, value, value)

    def test_bad_move(self):
        shelves = kept_moves()
        for value in [*any_values(), "file", 0]:
            if not isinstance(value, Move):
                self.refused(BadMove, {"value": value}, shelves, "file", value)
                self.refused(BadMove, {"value": value}, shelves, "new", value)

    def test_searches_that_do_not_fit(self):
        shelves = kept_moves()
        for search, error, value in (
                (at("new"), NoFolder, "new"), (below("in/old"), NoFolder, "in/old"), (marked("blue"), NoField, "blue"),
                (least("kind", 1), NoField, "kind"), (filled("red"), NoField, "red"),
                (said("size", "a"), NoField, "size"), (shelf("x"), NoShelf, "x"),
                (shelf("file"), NoShelf, "file"), (shelf("move"), NoShelf, "move"),
                (shelf("new") & marked("blue") & at("new"), NoField, "blue")):
            self.refused(error, {"value": value}, shelves, "move", Move(search))
            wrong = Move(search, to="new", on=("blue",), sets=(("age", 1),))
            self.refused(error, {"value": value}, shelves, "move", wrong)

    def test_what_is_not_of_the_fields(self):
        shelves = kept_moves()
        for move, error, told in (
                (Move(at("in"), to="new"), NoFolder, {"value": "new"}),
                (Move(at("in"), to="new", on=("blue",), sets=(("age", 1),)), NoFolder, {"value": "new"}),
                (Move(at("in"), on=("blue",)), NoMark, {"value": "blue"}),
                (Move(at("in"), on=("red", "size")), NoMark, {"value": "size"}),
                (Move(at("in"), on=("zzz",), off=("aaa",)), NoMark, {"value": "zzz"}),
                (Move(at("in"), on=("red",), off=("kind", "aaa")), NoMark, {"value": "kind"}),
                (Move(at("in"), off=("blue",), sets=(("age", 1),)), NoMark, {"value": "blue"}),
                (Move(at("in"), sets=(("age", 1),)), NoField, {"value": "age"}),
                (Move(at("in"), sets=(("red", None),)), NoField, {"value": "red"}),
                (Move(at("in"), sets=(("folder", "in"),)), NoField, {"value": "folder"}),
                (Move(at("in"), sets=(("size", 4),)), BadValue, {"name": "size", "value": 4}),
                (Move(at("in"), sets=(("size", "note"),)), BadValue, {"name": "size", "value": "note"}),
                (Move(at("in"), sets=(("kind", 1),)), BadValue, {"name": "kind", "value": 1}),
                (Move(at("in"), sets=(("kind", "other"),)), BadValue, {"name": "kind", "value": "other"}),
                (Move(at("in"), sets=(("size", 4), ("age", 1))), BadValue, {"name": "size", "value": 4}),
                (Move(at("in"), sets=(("age", 1), ("size", 4))), NoField, {"value": "age"}),
                (Move(at("in"), sets=(("kind", None), ("size", 3), ("age", 1))), NoField, {"value": "age"})):
            self.refused(error, told, shelves, "move", move)
            self.refused(error, told, shelves, "file", move)

    def test_six_moves(self):
        shelves = kept_moves()
        for name in "abcd":
            shelves.set_move(name, Move(at("in")))
        self.assertEqual(shelves.move_names, ("a", "b", "c", "d", "file", "tag"))
        self.refused(TooMany, {"most": 6}, shelves, "seven", Move(at("in")))
        self.refused(BadValue, {"name": "size"}, shelves, "seven", Move(at("in"), sets=(("size", 4),)))
        shelves.set_move("tag", Move(at("out")))
        self.assertEqual(shelves.move("tag"), Move(at("out")))
        shelves.drop_move("a")
        shelves.set_move("seven", Move(at("in")))
        self.assertEqual(len(shelves.move_names), 6)

    def test_moves_have_no_part_in_the_sixty_conditions(self):
        shelves = Shelves(FIELDS)
        long = at("in")
        for number in range(14):
            long = long ^ at("in")
        for name in "abcd":
            shelves[name] = long
        shelves.set_move("a", Move(long ^ at("in")))
        shelves.set_move("b", Move(long ^ at("in")))
        self.assertEqual(shelves.move_names, ("a", "b"))

    def test_no_move(self):
        shelves = kept_moves()
        item = FIELDS.made("in")
        for value in [*any_values(), "new", "big", "x", 0, ("file",), ["file"]]:
            for call in (lambda: shelves.move(value), lambda: shelves.drop_move(value), lambda: shelves.laid(value),
                         lambda: shelves.moved(value, item), lambda: after(shelves, value, FIELDS.everything),
                         lambda: before(shelves, value, FIELDS.everything),
                         lambda: tried(shelves, value, FIELDS.everything),
                         lambda: after(shelves, value, WIDE.everything)):
                with self.assertRaises(NoMove) as caught:
                    call()
                self.assertIs(caught.exception.value, value)
        self.assertTrue(shelves == kept_moves())


class LaidTest(unittest.TestCase):
    def test_laid(self):
        shelves = Shelves(WIDE)
        for move, pairs in (
                (Move(at("a")), ()), (Move(at("a"), to="b"), (("folder", "b"),)),
                (Move(at("a"), on=("blue",), off=("red",)), (("red", False), ("blue", True))),
                (Move(at("a"), on=("blue", "red")), (("red", True), ("blue", True))),
                (Move(at("a"), sets=(("tone", None), ("kind", "ant"), ("age", 0), ("size", None))),
                 (("size", None), ("age", 0), ("kind", "ant"), ("tone", None))),
                (Move(at("a"), to="a", off=("blue",), sets=(("tone", "low"), ("age", 1))),
                 (("folder", "a"), ("blue", False), ("age", 1), ("tone", "low")))):
            shelves.set_move("move", move)
            self.assertEqual(repr(shelves.laid("move")), repr(pairs))
            self.assertEqual(repr(shelves.laid(name="move")), repr(pairs))
            for item in all_items(WIDE)[::17]:
                item.laid(shelves.laid("move"))

    def test_moved(self):
        for number in range(12):
            shelves = some_moves(FIELDS, number)
            for name in shelves.move_names:
                for item in all_items(FIELDS):
                    move = shelves.move(name)
                    if move.search(item, shelves):
                        found = shelves.moved(name, item)
                        self.assertIsInstance(found, Item)
                        self.assertEqual(found.key, plain_moved(move, item))
                    else:
                        with self.assertRaises(NotAllowed) as caught:
                            shelves.moved(name=name, item=item)
                        self.assertIs(caught.exception.value, item)


def plain_moved(move, item):
    """Return the key of an item behind a move, field by field."""
    key = []
    for name, value in zip(item.fields.names, item.key):
        if name == "folder" and move.to is not None:
            value = move.to
        if name in move.on or name in move.off:
            value = name in move.on
        key.append(dict(move.sets).get(name, value))
    return tuple(key)


class GroupsOfMovesTest(unittest.TestCase):
    def same(self, group, keys):
        self.assertIsInstance(group, Group)
        told = {item.key for item in group.each()}
        self.assertEqual(told, keys)
        self.assertEqual(group.many, len(keys))

    def test_after_before_and_tried_held_against_a_look_at_every_item(self):
        for fields, many in ((FIELDS, 25), (SMALL, 25), (WIDE, 2)):
            for number in range(many):
                shelves = some_moves(fields, number)
                for name, search in zip(shelves.move_names, some_searches(fields, 4, number)):
                    move, group = shelves.move(name), fields.group(search)
                    allowed = [item for item in all_items(fields) if move.search(item, shelves)]
                    here = {item.key for item in group.each()}
                    gone = {plain_moved(move, item) for item in allowed if item.key in here}
                    stay = here - {item.key for item in allowed}
                    self.same(after(shelves, name, group), gone)
                    self.same(before(shelves, name, group), {
                        item.key for item in allowed if plain_moved(move, item) in here})
                    self.same(tried(shelves, name, group), gone | stay)

    def test_everything_and_nothing(self):
        shelves = kept_moves()
        for call in (after, before, tried):
            self.assertTrue(call(shelves, "file", FIELDS.nothing) == FIELDS.nothing)
        self.assertEqual(before(shelves, "file", FIELDS.everything), FIELDS.group(at("in") & marked("red")))
        self.assertEqual(tried(shelves, "file", FIELDS.everything), ~FIELDS.group(at("in") & marked("red")))
        self.assertEqual(after(shelves, "tag", FIELDS.everything), FIELDS.group(at("in") & marked("red")))

    def test_arguments_by_name(self):
        shelves = kept_moves()
        for call in (after, before, tried):
            self.assertEqual(call(group=FIELDS.everything, name="tag", shelves=shelves),
                             call(shelves, "tag", FIELDS.everything))

    def test_other_fields(self):
        shelves = kept_moves()
        for group in (WIDE.everything, NEAR.nothing, NEAR.group(at("in"))):
            for call in (after, before, tried):
                self.assertRaises(OtherFields, call, shelves, "file", group)

    def test_a_move_that_is_allowed_for_nothing_and_one_that_changes_nothing(self):
        shelves = Shelves(FIELDS)
        shelves.set_move("never", Move(nothing(), to="out"))
        shelves.set_move("still", Move(everything()))
        group = FIELDS.group(at("in") ^ least("size", 2))
        self.assertEqual([call(shelves, "never", group).many for call in (after, before)], [0, 0])
        self.assertEqual(tried(shelves, "never", group), group)
        for call in (after, before, tried):
            self.assertEqual(call(shelves, "still", group), group)

    def test_the_largest_fields(self):
        shelves = Shelves(LARGEST)
        shelves["x"] = below("a") & (marked("e") ^ least("i", 40))
        shelves.set_move("go", Move(shelf("x") - said("k", "b"), to="d", on=("h",), off=("e",), sets=(
            ("i", 7), ("j", None), ("l", "c"))))
        whole = LARGEST.many // 2
        ahead = shelves.group(shelf("x") - said("k", "b"))
        self.assertEqual(ahead.many, whole // 2 // 5 * 4)
        behind = after(shelves, "go", LARGEST.everything)
        self.assertTrue(behind == LARGEST.group(
            at("d") & marked("h") & ~marked("e") & least("i", 7) - least("i", 8) - filled("j") & said("l", "c") - said(
                "k", "b")))
        self.assertEqual(behind.many, 4 * 4)
        self.assertTrue(before(shelves, "go", behind) == ahead)
        self.assertEqual(before(shelves, "go", LARGEST.group(at("c"))).many, 0)
        self.assertEqual(before(shelves, "go", LARGEST.group(marked("f"))), ahead & LARGEST.group(marked("f")))
        self.assertTrue(tried(shelves, "go", LARGEST.everything) == ~ahead)
        self.assertTrue(tried(shelves, "go", ahead) == behind)

    def test_nothing_is_changed(self):
        shelves, group = kept_moves(), FIELDS.group(at("in"))
        table = group.table
        for call in (after, before, tried):
            call(shelves, "tag", group)
            self.assertRaises(OtherFields, call, shelves, "tag", WIDE.everything)
        self.assertTrue(shelves == kept_moves() and group == FIELDS.group(at("in")) and group.table == table)


if __name__ == "__main__":
    unittest.main()

"""The examples of the document, from section 4 to section 21, one behind the other as they stand there."""

import unittest

from wishshelves.desk import Desk
from wishshelves.effects import alike_moves, effects
from wishshelves.errors import BadRing, Broken
from wishshelves.fields import Fields
from wishshelves.looks import alike, parting, spare
from wishshelves.moves import Move, after, before
from wishshelves.nearest import nearest
from wishshelves.recipes import recipe
from wishshelves.room import Room
from wishshelves.searches import at, below, least, marked, said, shelf
from wishshelves.searchtexts import read_search, show_search
from wishshelves.shelves import Shelves
from wishshelves.texts import show_item, show_shelves
from wishshelves.ways import all_can, can, lasting, reach


class ExamplesTest(unittest.TestCase):
    def test_one_behind_the_other(self):
        self.fields = Fields(
            ("in", "in/new", "out"), marks=("red",), numbers=(("size", 3),), kinds=(("kind", ("note", "list")),))
        self.items_and_searches()
        self.groups()
        self.shelves_and_looks()
        self.moves_and_ways()
        self.recipes_and_effects()
        self.the_room()
        self.notices_nearest_and_vows()
        self.batches()
        self.texts_and_the_desk()

    def items_and_searches(self):
        fields = self.fields
        item = fields.made("in", "red", size=2)
        self.assertEqual(
            [fields.names, fields.many, item.key, item.marks, item["size"], item["kind"], "red" in item],
            [("folder", "red", "size", "kind"), 90, ("in", True, 2, None), ("red",), 2, None, True])
        self.assertEqual(
            [item < fields.made("in/new"), item > fields.made("in", size=3),
             item.laid((("folder", "out"), ("red", False))).key],
            [True, True, ("out", False, 2, None)])
        self.search = search = below("in") & (marked("red") | least("size", 2))
        self.assertEqual(
            [search(item), (~search)(item), search(fields.made("out", "red")), search.many, (search & "x").shelves],
            [True, False, False, 3, ("x",)])
        self.assertEqual(
            [("x" - at("out")).parts[0], (at("in") & (at("out") & search)).parts[0],
             len((at("in") & (at("out") & search)).parts)],
            ["and", "and", 5])
        self.assertEqual(
            [show_search(search), show_search(~(search ^ said("kind", "note")) | "x")],
            ["below in & (marked red | size >= 2)", "~(below in & (marked red | size >= 2) ^ kind is note) | shelf x"])
        self.assertTrue(read_search("~marked red & size <= 2") == ~marked("red") & read_search("size <= 2"))

    def groups(self):
        fields = self.fields
        self.group = group = fields.group(self.search)
        self.assertEqual(
            [group.many, group.least.key, (group - fields.group(marked("red"))).many,
             fields.group(at("in")) <= group],
            [42, ("in", False, 2, None), 12, False])
        self.assertEqual((group.table[0], group.table[1:]), (
            ("folder", ((("in", "in/new"), 1), (("out",), False))),
            (("red", (((False,), 2), ((True,), True))), ("size", (((None, (0, 1)), False), (((2, 3),), True))))))
        self.assertEqual(
            [one.key for one in fields.group(self.search & at("in") & said("kind", "list")).each() if "red" not in one],
            [("in", False, 2, "list"), ("in", False, 3, "list")])
        self.assertEqual(
            [(name, one.key, other.key) for name, one, other in group.matters()][:2],
            [("folder", ("in", False, 2, None), ("out", False, 2, None)),
             ("red", ("in", False, None, None), ("in", True, None, None))])
        self.assertEqual(
            [name for name, one, other in fields.group(marked("red") | ~marked("red") & at("in")).matters()],
            ["folder", "red"])

    def shelves_and_looks(self):
        self.shelves = shelves = Shelves(self.fields)
        shelves["new"] = below("in") & ~marked("red")
        shelves["big"] = least("size", 2) & "new"
        self.assertEqual(
            [shelves.used_by("new"), shelves.group("big").many, shelves.group(shelf("new") - "big").many],
            [(("shelf", "big"),), 12, 18])
        with self.assertRaises(BadRing) as caught:
            shelves["new"] = at("in") | "big"
        self.assertEqual(caught.exception.ring, ("big", "new"))
        self.assertEqual(
            [alike(shelves, "big", least("size", 2)).key, parting(shelves, ("big", "new"))[0].key,
             parting(shelves, ("big", "new"))[1]],
            [("in", True, 2, None), ("in", False, 2, None), ("big", "new")])
        self.assertEqual(
            spare(shelves, read_search("below in & ~(marked red | marked red & filled size) & shelf big")),
            ((0,), (1,), (1, 0, 0), (1, 0, 1), (1, 0, 1, 1)))

    def moves_and_ways(self):
        fields, shelves = self.fields, self.shelves
        shelves.set_move("file", Move(at("in") & marked("red"), to="out"))
        shelves.set_move("tag", Move(shelf("new") & at("in"), on=("red",)))
        self.assertEqual(
            [shelves.laid("tag"), shelves.moved("tag", fields.made("in")).key,
             after(shelves, "file", fields.everything).many],
            [(("red", True),), ("in", True, None, None), 15])
        self.assertEqual(
            [before(shelves, "tag", fields.group(marked("red"))) == shelves.group(shelf("new") & at("in")),
             shelves.used_by("new")],
            [True, (("move", "tag"), ("shelf", "big"))])
        self.out, low = fields.group(at("out")), fields.group(at("in/new"))
        out = self.out
        self.assertEqual(
            [can(shelves, shelves.group("new"), out)[1].key, can(shelves, shelves.group("new"), out)[2],
             can(shelves, low, out) == ("never", low)],
            [("in", False, None, None), ("tag", "file"), True])
        self.assertEqual(
            [[one.many for one in all_can(shelves, fields.group(at("in")), out)[1]], lasting(shelves, ~out).many,
             reach(shelves, low) == low],
            [[30, 15, 15], 30, True])

    def recipes_and_effects(self):
        fields, shelves, out = self.fields, self.shelves, self.out
        self.assertEqual(
            [recipe(shelves, fields.group(at("in")), out),
             recipe(shelves, fields.group(at("in") & marked("red")), out, only=("file",))],
            [("recipe", ("tag", "file")), ("recipe", ("file",))])
        self.assertEqual(recipe(shelves, fields.group(below("in")), out)[0], "none")
        self.assertEqual(
            [(laid, group.many) for laid, group in effects(shelves)],
            [((), 90), ((("red", True),), 15), ((("folder", "out"),), 15), ((("folder", "out"), ("red", True)), 15)])
        other = shelves.copy()
        other.set_move("file", Move(at("in"), to="out"))
        self.assertEqual([one.key for one in alike_moves(shelves, other)],
                         [("in", False, None, None), ("out", False, None, None)])

    def the_room(self):
        fields = self.fields
        self.room = room = Room(fields)
        one = [room.add(fields.made("in", "red", size=2)), room.add(fields.made("in/new", kind="note"))]
        room["new"] = below("in") & ~marked("red")
        room[0].drop("red")
        room[1].lay("out")
        self.assertEqual([one, room.members("new"), room.shelves_of(1), room[0].item.key, room[1]["kind"]],
                         [[0, 1], (0,), (), ("in", False, 2, None), "note"])

    def notices_nearest_and_vows(self):
        fields, room, group = self.fields, self.room, self.group
        room.watch("new")
        room[0].put("red")
        self.assertEqual([room.notices(), room.looked()], [((7, "new", 0, False),), ((0, "new"),)])
        room[0]["size"] = 3
        self.assertEqual(room.looked(), ())
        item = fields.made("out", size=0)
        self.assertEqual([nearest(item, group).key, nearest(item, group, locked=("folder",))],
                         [("in", False, 2, None), None])
        self.assertEqual([nearest(item, group, locked=("size",)).key, room.lead(1, "new").key],
                         [("in", True, 0, None), ("in", False, None, "note")])
        room.set_move("file", Move(at("in") & marked("red"), to="out"))
        room.vow("kept", shelf("new"), at("out"))
        self.assertEqual([room.vows[0][0], room.used_by("new")], ["kept", (("vow", "kept"),)])
        with self.assertRaises(Broken) as caught:
            room.set_move("tag", Move(at("in"), on=("red",)))
        self.assertEqual((caught.exception.name, caught.exception.value.key, caught.exception.run),
                         ("kept", ("in", False, None, None), ("tag", "file")))

    def batches(self):
        fields, room = self.fields, self.room
        before_it = room.deeds
        found = room.batched(
            lambda here: [here[0].drop("red"), here[0].put("red"), here.add(fields.made("in"))][2])
        self.assertEqual([found, room.deeds - before_it, room.notices(1), room.looked()],
                         [2, 1, ((11, "new", 2, True),), ((2, "new"),)])
        self.assertEqual([room.undo(), room.numbers, room.notices(2)], [None, (0, 1), ((10, "new", 2, False),)])

    def texts_and_the_desk(self):
        room = self.room
        self.assertEqual(
            [show_item(room[1].item), room.journal().split("\n")[4:8]],
            ["folder=out red=no size=- kind=note",
             ["deeds", "add folder=in red=yes size=2 kind=-", "add folder=in/new red=no size=- kind=note",
              "shelf new below in & ~marked red"]])
        self.assertEqual(
            show_shelves(self.shelves).split("\n")[4:],
            ["shelf big size >= 2 & shelf new", "shelf new below in & ~marked red",
             "move file out - - - in in & marked red", "move tag - red - - shelf new & in in"])
        desk = Desk(room.journal())
        lines = ("on 0", "members new", "lead 1 new", "can new new", "add folder=in red=no size=1 kind=-", "looked",
                 "undo")
        self.assertEqual([desk.say(line) for line in lines],
                         ["-", "-", "folder=in red=no size=- kind=note", "0:", "2", "2 new", "ok"])


if __name__ == "__main__":
    unittest.main()

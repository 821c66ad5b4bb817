"""Section 20, its first half: texts of items, fields and shelves."""

import itertools
import random
import unittest

from helper import FIELDS, LARGEST, SMALL, WIDE, all_items, any_values, some_moves, some_searches
from wishshelves.errors import BadText
from wishshelves.fields import Fields
from wishshelves.items import Item
from wishshelves.moves import Move
from wishshelves.searches import at, below, least, marked, nothing, shelf
from wishshelves.shelves import Shelves
from wishshelves.texts import read_fields, read_item, read_shelves, show_fields, show_item, show_shelves

LONE = Fields(("in",))
EVERY_FIELDS = (
    FIELDS, WIDE, SMALL, LARGEST, LONE, Fields(("a", "a/b", "a/b/c"), marks=("z", "a")),
    Fields(("a",), numbers=(("n", 1), ("m", 99))), Fields(("a",), kinds=(("k", ("a",)),)),
    Fields(("folders", "marks"), marks=("folders", "marks", "number", "kind"), numbers=(("yes", 9), ("no", 10))))


def example():
    """Return the Shelves of the document's example."""
    shelves = Shelves(FIELDS)
    shelves["new"] = below("in") & ~marked("red")
    shelves["big"] = least("size", 2) & "new"
    shelves.set_move("file", Move(at("in") & marked("red"), to="out"))
    shelves.set_move("tag", Move(shelf("new") & at("in"), on=("red",)))
    return shelves


class TextCase(unittest.TestCase):
    def refused(self, call, value):
        with self.assertRaises(BadText) as caught:
            call(value)
        self.assertIs(caught.exception.value, value)

    def spoilt(self, text):
        """Return texts that differ from a right one in a single place."""
        chance = random.Random(text)
        found = [text + one for one in (" ", "\n", "x", "0", "\t", ",")] + [one + text for one in (" ", "\n", "x")]
        for number in range(60):
            place = chance.randrange(len(text))
            sign = chance.choice("azA09 \n-=,/|&~()\u00e9")
            found += [text[:place] + text[place + 1:], text[:place] + sign + text[place:],
                      text[:place] + sign + text[place + 1:]]
        return [one for one in found if one != text]


class ItemsTest(TextCase):
    def test_show_item(self):
        self.assertEqual(show_item(FIELDS.made("out", kind="note")), "folder=out red=no size=- kind=note")
        self.assertEqual(show_item(item=FIELDS.made("in/new", "red", size=0)), "folder=in/new red=yes size=0 kind=-")
        self.assertEqual(show_item(LONE.made("in")), "folder=in")
        self.assertEqual(show_item(WIDE.made("a/b/c", "blue", age=1, tone="low")),
                         "folder=a/b/c red=no blue=yes size=- age=1 kind=- tone=low")

    def test_each_item_is_read_back(self):
        for fields in (FIELDS, SMALL, WIDE, LONE):
            items = all_items(fields)
            self.assertEqual(len({show_item(item) for item in items}), len(items))
            for item in items:
                found = read_item(fields, show_item(item))
                self.assertIsInstance(found, Item)
                self.assertEqual((found.key, found.fields), (item.key, fields))
        item = LARGEST.made("a/b/c", "e", "h", i=99, j=10, k="d")
        self.assertEqual(read_item(fields=LARGEST, text=show_item(item)), item)

    def test_any_value(self):
        for value in [*any_values(), 0, "folder=in", ["folder=in red=no size=- kind=-"], FIELDS.made("in")]:
            self.refused(lambda one: read_item(FIELDS, one), value)

    def test_what_is_not_written_so(self):
        for text in (
                "folder=in red=no size=- kind=- ", " folder=in red=no size=- kind=-", "folder=in  red=no size=- kind=-",
                "folder=in red=no size=-", "folder=in red=no kind=- size=-", "folder=in red=no size=- kind=- kind=-",
                "folder=In red=no size=- kind=-", "folder=new red=no size=- kind=-", "folder=- red=no size=- kind=-",
                "folder=in red=- size=- kind=-", "folder=in red=True size=- kind=-", "folder=in red=no size=4 kind=-",
                "folder=in red=no size=00 kind=-", "folder=in red=no size=01 kind=-", "folder=in red=no size=+1 kind=-",
                "folder=in red=no size=None kind=-", "folder=in red=no size= kind=-", "folder=in red=no size=- kind=no",
                "folder=in red=no size=- kind=Note", "folder=in\nred=no size=- kind=-",
                "folder=in red=no size=- kind=-\n", "folder =in red=no size=- kind=-",
                "folder=in=in red=no size=- kind=-", "folder=in,red=no,size=-,kind=-",
                "folder=in red=no size=\u0661 kind=-", "folder=in red=no size=-1 kind=-", "in no - -"):
            self.refused(lambda one: read_item(FIELDS, one), text)
        self.refused(lambda one: read_item(LONE, one), "")
        self.refused(lambda one: read_item(WIDE, one), "folder=in red=no size=- kind=-")

    def test_spoilt_texts(self):
        for item in (FIELDS.made("in/new", "red", size=3, kind="list"), FIELDS.made("out")):
            for text in self.spoilt(show_item(item)):
                try:
                    found = read_item(FIELDS, text)
                except BadText as error:
                    self.assertIs(error.value, text)
                else:
                    self.assertEqual(show_item(found), text)
                    self.assertNotEqual(found, item)


class FieldsTest(TextCase):
    def test_show_fields(self):
        self.assertEqual(show_fields(FIELDS), "folders in in/new out\nmarks red\nnumber size 3\nkind kind note list")
        self.assertEqual(show_fields(fields=LONE), "folders in")
        self.assertEqual(show_fields(WIDE), "\n".join([
            "folders a a/b a/b/c b", "marks red blue", "number size 2", "number age 1", "kind kind zoo ant",
            "kind tone low"]))

    def test_each_is_read_back(self):
        for fields in EVERY_FIELDS:
            found = read_fields(text=show_fields(fields))
            self.assertIsInstance(found, Fields)
            self.assertTrue(found == fields)
        self.assertEqual(len({show_fields(fields) for fields in EVERY_FIELDS}), len(EVERY_FIELDS))

    def test_any_value(self):
        for value in [*any_values(), 0, "folders", "folders ", ["folders in"], FIELDS]:
            self.refused(read_fields, value)

    def test_what_is_not_written_so(self):
        for text in (
                "folders in ", " folders in", "folders  in", "folders in\n", "\nfolders in", "folders in in",
                "folders out in", "folders in/new", "folders In", "Folders in", "folders in\nmarks",
                "folders in\nmarks ", "folders in\nmarks red red", "folders in\nmarks self",
                "folders in\nmarks a b c d e",
                "marks red\nfolders in", "folders in\nmarks red\nmarks blue", "folders in\nfolders out",
                "folders in\nnumber size", "folders in\nnumber size 0", "folders in\nnumber size 100",
                "folders in\nnumber size 05", "folders in\nnumber size 5 6", "folders in\nnumber size five",
                "folders in\nnumber size -5", "folders in\nnumber size 5\nnumber size 6",
                "folders in\nnumber a 1\nnumber b 1\nnumber c 1", "folders in\nkind tone", "folders in\nkind",
                "folders in\nkind tone a b c d e", "folders in\nkind tone a a", "folders in\nkind a b\nnumber c 1",
                "folders in\nnumber a 1\nmarks b", "folders in\nkind tone low\nmarks red",
                "folders in\nmarks a\nkind a b", "folders in\n\nmarks red", "folders in\nsize 3", "folders in\tout",
                "folders a b c d e f g",
                "folders in\nkind tone low ", "folders in\r\nmarks red", "folders in\ndeeds", "folder in",
                "folders in\nnumber size \u0663", "marks red", "number size 3", "kind tone low"):
            self.refused(read_fields, text)

    def test_spoilt_texts(self):
        for fields in EVERY_FIELDS:
            for text in self.spoilt(show_fields(fields)):
                try:
                    found = read_fields(text)
                except BadText as error:
                    self.assertIs(error.value, text)
                else:
                    self.assertEqual(show_fields(found), text)
                    self.assertFalse(found == fields)


class ShelvesTest(TextCase):
    def test_the_example_of_the_document(self):
        self.assertEqual(show_shelves(example()).split("\n")[4:], [
            "shelf big size >= 2 & shelf new", "shelf new below in & ~marked red",
            "move file out - - - in in & marked red", "move tag - red - - shelf new & in in"])

    def test_show_shelves(self):
        shelves = Shelves(WIDE)
        self.assertEqual(show_shelves(shelves), show_fields(WIDE))
        shelves["z"] = nothing()
        shelves["a"] = ~(shelf("z") | at("a/b/c"))
        shelves.set_move("z", Move(at("a"), on=("blue", "red")))
        shelves.set_move("a", Move(
            shelf("a") ^ "z", to="a/b", on=("red",), off=("blue",),
            sets=(("tone", "low"), ("size", 2), ("age", None), ("kind", None))))
        self.assertEqual(show_shelves(shelves=shelves), "\n".join([
            show_fields(WIDE), "shelf a ~(shelf z | in a/b/c)", "shelf z nothing",
            "move a a/b red blue tone=low,size=2,age=-,kind=- shelf a ^ shelf z", "move z - blue,red - - in a"]))

    def test_each_is_read_back(self):
        shown = set()
        for fields in (FIELDS, WIDE, SMALL, LARGEST):
            for seed in range(12):
                shelves = some_moves(fields, seed, many=6)
                for name, search in zip("zyxab", some_searches(fields, 5, seed, longest=6, names=shelves.names)):
                    shelves[name] = search
                found = read_shelves(text=show_shelves(shelves))
                self.assertIsInstance(found, Shelves)
                self.assertTrue(found == shelves)
                self.assertEqual(show_shelves(found), show_shelves(shelves))
                shown.add(show_shelves(found))
        self.assertEqual(len(shown), 48)
        for fields in EVERY_FIELDS:
            self.assertTrue(read_shelves(show_fields(fields)) == Shelves(fields))

    def test_shelves_that_name_one_another_in_every_sequence(self):
        for names in itertools.permutations("abcd"):
            shelves = Shelves(FIELDS)
            shelves[names[0]] = at("in")
            for one, other in zip(names, names[1:]):
                shelves[other] = ~shelf(one)
            self.assertTrue(read_shelves(show_shelves(shelves)) == shelves)

    def test_as_much_as_there_can_be(self):
        shelves, search = Shelves(FIELDS), at("in")
        for number in range(15):
            search = search ^ marked("red")
        for name, one in zip("abc", (search,) * 3):
            shelves[name] = one
        shelves["d"] = at("in")
        for name in "efgh":
            shelves[name] = shelf("d") & "a"
        shelves["d"] = at("in") & at("in") & at("in")
        self.assertEqual(sum(shelves[name].many for name in shelves.names), 59)
        for name in "uvwxyz":
            shelves.set_move(name, Move(search))
        text = show_shelves(shelves)
        self.assertTrue(read_shelves(text) == shelves)
        self.assertTrue(read_shelves(text.replace("shelf d in in", "shelf d in in & in in")).group("d")
                        == shelves.group("d"))
        self.refused(read_shelves, text.replace("shelf d in in", "shelf d in in & in in & in in"))
        self.refused(read_shelves, text.replace("shelf h shelf d & shelf a", "shelf h in in\nshelf i in in"))
        self.refused(read_shelves, text.replace("move z", "move y") + "\n" + text.split("\n")[-1])
        self.refused(read_shelves, text + "\n" + text.split("\n")[-1].replace("move z", "move zz"))

    def test_any_value(self):
        for value in [*any_values(), 0, "shelf", [show_shelves(example())], example()]:
            self.refused(read_shelves, value)

    def test_what_is_not_written_so(self):
        head = show_fields(FIELDS)
        for rows in (
                "shelf a", "shelf a ", "shelf", "shelf A in in", "shelf a in new", "shelf a in  in", "shelf a (in in)",
                "shelf a shelf a", "shelf a shelf b", "shelf a shelf b\nshelf b shelf a",
                "shelf b in in\nshelf a in in", "shelf a in in\nshelf a in in", "shelf a in in ", "shelf a in in\n",
                "\nshelf a in in",
                "shelf a in in\n\nshelf b in in", "shelf abcdefghi in in", "shelf a marked blue", "shelf a kind >= 2",
                "move a - - - - in in ", "move a - - - in in", "move a - - - -", "move a - - - - ", "move a in",
                "move A - - - - in in", "move a new - - - in in", "move a - blue - - in in", "move a - red red - in in",
                "move a - red,red - - in in", "move a - - red, - in in", "move a - ,red - - in in",
                "move a - - - size=4 in in", "move a - - - size=01 in in", "move a - - - kind=zzz in in",
                "move a - - - red=yes in in", "move a - - - size=1,size=2 in in", "move a - - - size in in",
                "move a - - - size= in in", "move a - - - size=1, in in", "move a - - - =1 in in",
                "move a  - - - - in in", "move a - - - - shelf b", "move b - - - - in in\nmove a - - - - in in",
                "move a - - - - in in\nshelf a in in", "move a - - - - in in\nmove a - - - - in in",
                "move a - - - - in zzz", "moves a - - - - in in", "drop a", "deeds"):
            self.refused(read_shelves, head + "\n" + rows)
        self.refused(read_shelves, "shelf a in in\n" + head)
        self.refused(read_shelves, "shelf a in in")
        self.refused(read_shelves, head.replace("\nmarks", "\nshelf a in in\nmarks"))
        self.assertTrue(read_shelves(head + "\nshelf a in in") == read_shelves(head + "\nshelf a in in"))

    def test_spoilt_texts(self):
        for number in range(8):
            shelves = some_moves(FIELDS, number, many=3) if number else example()
            for text in self.spoilt(show_shelves(shelves)):
                try:
                    found = read_shelves(text)
                except BadText as error:
                    self.assertIs(error.value, text)
                else:
                    self.assertEqual(show_shelves(found), text)
                    self.assertFalse(found == shelves)

    def test_nothing_is_changed(self):
        shelves = example()
        show_shelves(shelves)
        self.assertTrue(shelves == example())


if __name__ == "__main__":
    unittest.main()

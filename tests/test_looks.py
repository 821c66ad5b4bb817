"""Section 10: looks at shelves."""

import itertools
import unittest

from helper import FIELDS, LARGEST, SMALL, WIDE, all_items, any_values, repr_of, some_searches
from wishshelves.errors import BadNames, NoField, NoFolder, NoShelf
from wishshelves.looks import alike, parting, same_shelves, spare
from wishshelves.searches import (
    Search, at, below, everything, filled, least, marked, most, nothing, said, shelf)
from wishshelves.searchtexts import read_search
from wishshelves.shelves import Shelves


def example():
    """Return the Shelves of the document's example."""
    shelves = Shelves(FIELDS)
    shelves["new"] = below("in") & ~marked("red")
    shelves["big"] = least("size", 2) & "new"
    return shelves


def some_shelves(fields, seed, many=5):
    """Return a Shelves of so many shelves, the same each time."""
    shelves = Shelves(fields)
    for name, search in zip(("e", "d", "c", "b", "a", "f", "h", "g"), some_searches(fields, many, seed, longest=5)):
        shelves[name] = search
    return shelves


def here(shelves, search):
    """Return the keys of the items of which a search, or that of a shelf, is true: a look at every item."""
    if isinstance(search, str):
        search = shelf(search)
    return [item.key for item in all_items(shelves.fields) if search(item, shelves)]


class ExamplesTest(unittest.TestCase):
    def test_the_examples_of_the_document(self):
        shelves = example()
        self.assertEqual(
            [alike(shelves, "big", least("size", 2)).key, parting(shelves, ("big", "new"))[0].key,
             parting(shelves, ("big", "new"))[1]],
            [("in", True, 2, None), ("in", False, 2, None), ("big", "new")])
        search = read_search("below in & ~(marked red | marked red & filled size) & shelf big")
        self.assertEqual(spare(shelves, search), ((0,), (1,), (1, 0, 0), (1, 0, 1), (1, 0, 1, 1)))


class AlikeTest(unittest.TestCase):
    def test_alike_held_against_a_look_at_every_item(self):
        for number in range(6):
            shelves = some_shelves(FIELDS, number)
            looks = [*shelves.names, *some_searches(FIELDS, 6, number, names=shelves.names)]
            for one, other in itertools.product(looks, repeat=2):
                keys, others = set(here(shelves, one)), set(here(shelves, other))
                apart = [item for item in all_items(FIELDS) if (item.key in keys) != (item.key in others)]
                self.assertEqual(alike(shelves, one, other), apart[0] if apart else None)

    def test_alike(self):
        shelves = example()
        self.assertIsNone(alike(shelves, "new", "new"))
        self.assertIsNone(alike(shelves, shelf("new"), "new"))
        self.assertIsNone(alike(shelves, other=shelf("new") & least("size", 2), one="big"))
        self.assertEqual(alike(shelves, everything(), nothing()).key, ("in", False, None, None))

    def test_errors_of_one_then_of_other(self):
        shelves = example()
        wrong = [("x", NoShelf, "x"), ("Big", NoShelf, "Big"), ("", NoShelf, ""), (shelf("x"), NoShelf, "x"),
                 (at("new"), NoFolder, "new"), (marked("blue") & "x", NoField, "blue")]
        for (one, error, value), (other, other_error, other_value) in itertools.product(wrong, repeat=2):
            for args, told, kept in (((one, other), error, value), ((one, "new"), error, value),
                                     (("new", other), other_error, other_value)):
                with self.assertRaises(told) as caught:
                    alike(shelves, *args)
                self.assertEqual(caught.exception.value, kept)

    def test_the_largest_fields(self):
        shelves = Shelves(LARGEST)
        shelves["one"] = least("i", 30) & (marked("h") | said("l", "a"))
        shelves["two"] = least("i", 30) & (marked("h") | said("l", "a")) ^ at("d") & least("j", 98) & marked("h")
        self.assertEqual(alike(shelves, "one", "two").key, ("d", False, False, False, True, None, 98, None, None))
        self.assertIsNone(alike(shelves, "one", shelf("two") ^ at("d") & marked("h") & least("j", 98)))


class SameShelvesTest(unittest.TestCase):
    def test_same_shelves(self):
        shelves = Shelves(FIELDS)
        self.assertEqual(same_shelves(shelves), ())
        shelves["e"] = marked("red")
        self.assertEqual(same_shelves(shelves), ())
        shelves["b"] = least("size", 4)
        shelves["d"] = ~shelf("e")
        self.assertEqual(same_shelves(shelves), ())
        shelves["a"] = ~shelf("d")
        shelves["f"] = nothing()
        self.assertEqual(same_shelves(shelves), (("a", "e"), ("b", "f")))
        shelves["c"] = ~shelf("a") & filled("size") & most("size", 3) | ~shelf("a") - filled("size")
        self.assertEqual(same_shelves(shelves=shelves), (("a", "e"), ("b", "f"), ("c", "d")))
        shelves["aa"] = marked("red") & everything()
        self.assertEqual(same_shelves(shelves), (("a", "aa", "e"), ("b", "f"), ("c", "d")))

    def test_same_shelves_held_against_a_look_at_every_item(self):
        for number in range(40):
            shelves = some_shelves(SMALL, number, many=8)
            keys = {name: here(shelves, name) for name in shelves.names}
            lots = {tuple(other for other in keys if keys[other] == keys[name]) for name in keys}
            self.assertEqual(same_shelves(shelves), tuple(sorted(lot for lot in lots if len(lot) > 1)))


class PartingTest(unittest.TestCase):
    def test_parting(self):
        shelves = Shelves(FIELDS)
        shelves["in"], shelves["out"] = below("in"), at("out")
        shelves["all"], shelves["none"] = everything(), nothing()
        self.assertIsNone(parting(shelves, ("in", "out")))
        self.assertIsNone(parting(shelves, names=("out", "none", "in")))
        self.assertIsNone(parting(shelves, ("all",)))
        for names, key, some in (
                ((), ("in", False, None, None), ()), (("none",), ("in", False, None, None), ()),
                (("in",), ("out", False, None, None), ()), (("out",), ("in", False, None, None), ()),
                (("out", "in", "all"), ("in", False, None, None), ("all", "in")),
                (("out", "all"), ("out", False, None, None), ("all", "out"))):
            item, told = parting(shelves, names)
            self.assertEqual((item.key, told), (key, some))

    def test_parting_held_against_a_look_at_every_item(self):
        for number in range(12):
            shelves = some_shelves(FIELDS, number, many=4)
            for many in range(4):
                for names in itertools.permutations(shelves.names, many):
                    self.assertEqual(parting(shelves, names), self.plain_parting(shelves, names))

    def plain_parting(self, shelves, names):
        for item in all_items(shelves.fields):
            some = tuple(name for name in sorted(names) if shelves[name](item, shelves))
            if len(some) != 1:
                return item, some
        return None

    def test_bad_names(self):
        shelves = example()
        for value in [*any_values(), "new", 0, ("new", "new"), ("big", "new", "big"), ("new", "x"), ["new"],
                      ("new", None), ("new", ["big"]), (("new",),), {"new": 1}, ("New",), ("new", shelf("big")),
                      (shelf("big"),)]:
            with self.assertRaises(BadNames) as caught:
                parting(shelves, value)
            self.assertIs(caught.exception.value, value)

    def test_the_largest_fields(self):
        shelves = Shelves(LARGEST)
        shelves["low"] = most("i", 49) | ~filled("i")
        shelves["high"] = least("i", 50) - (at("d") & marked("h") & said("k", "c"))
        shelves["rest"] = at("d") & marked("h") & said("k", "c") & least("i", 50) & most("i", 98)
        item, some = parting(shelves, ("low", "high", "rest"))
        self.assertEqual((item.key, some), (("d", False, False, False, True, 99, None, "c", None), ()))
        shelves["rest"] = at("d") & marked("h") & said("k", "c") & least("i", 50)
        self.assertIsNone(parting(shelves, ("low", "high", "rest")))
        shelves["rest"] = at("d") & marked("h") & said("k", "c") & least("i", 49)
        item, some = parting(shelves, ("low", "high", "rest"))
        self.assertEqual((item.key, some), (("d", False, False, False, True, 49, None, "c", None), ("low", "rest")))


def plain_spare(shelves, search):
    """Return the places that can be left out, each tried by a search that is put together anew."""
    whole = here(shelves, search)
    return tuple(place for place, left in all_left(search) if here(shelves, left) == whole)


def all_left(search):
    """Return (place, search without the member at this place) for all members of rows in a search."""
    word, *members = search.parts
    if word == "not":
        return [((0, *place), ~left) for place, left in all_left(members[0])]
    found = []
    if word in ("and", "or", "either"):
        for number, member in enumerate(members):
            others = members[:number] + members[number + 1:]
            found.append(((number,), others[0] if len(others) == 1 else Search((word, *others))))
            for place, left in all_left(member):
                found.append(((number, *place), Search((word, *members[:number], left, *members[number + 1:]))))
    return found


class SpareTest(unittest.TestCase):
    def test_spare(self):
        shelves = example()
        for text, places in (
                ("everything", ()), ("nothing", ()), ("in in", ()), ("~marked red", ()), ("shelf new", ()),
                ("in in & below in", ((1,),)), ("below in & in in", ((0,),)), ("in in | below in", ((0,),)),
                ("in in & in in", ((0,), (1,))), ("in in & in in & in in", ((0,), (1,), (2,))),
                ("marked red & size >= 1", ()), ("in in & in out", ()), ("in in & in out & marked red", ((2,),)),
                ("marked red ^ nothing", ((1,),)), ("nothing ^ marked red", ((0,),)),
                ("marked red ^ nothing ^ nothing", ((1,), (2,))), ("marked red ^ everything", ()),
                ("marked red ^ marked red", ()), ("in in ^ marked red ^ marked red", ()),
                ("~(in in & below in)", ((0, 1),)), ("~(in in | ~(marked red & everything))", ((0, 1, 0, 1),)),
                ("shelf big & shelf new", ((1,),)), ("shelf big | shelf new", ((0,),)),
                ("below in & (in in | in in/new)", ((0,), (1,))), ("size <= 3 | filled size", ((0,), (1,))),
                ("kind is other | marked red", ((0,),)),
                ("(in in | in out) & (marked red | everything)", ((1,), (1, 0)))):
            self.assertEqual(spare(shelves, read_search(text)), places, text)
            self.assertEqual(spare(search=read_search(text), shelves=shelves), plain_spare(shelves, read_search(text)))

    def test_spare_held_against_a_look_at_every_item(self):
        for number in range(12):
            shelves = some_shelves(FIELDS, number, many=3)
            for search in some_searches(FIELDS, 12, number, longest=10, names=shelves.names):
                self.assertEqual(spare(shelves, search), plain_spare(shelves, search), repr_of(search))

    def test_sixteen_conditions_of_the_largest_fields(self):
        search = least("i", 0)
        for number in range(1, 8):
            search = search & (least("i", number) | said("k", "a"))
        self.assertEqual(search.many, 15)
        self.assertEqual(spare(Shelves(LARGEST), search), ((1,), (2,), (3,), (4,), (5,), (6,)))
        deep = marked("e")
        for number in range(7):
            deep = ~((deep | nothing()) & everything())
        self.assertEqual(deep.many, 15)
        self.assertEqual(len(spare(Shelves(LARGEST), deep)), 14)

    def test_errors(self):
        shelves = example()
        for search, error, value in (
                (shelf("x"), NoShelf, "x"), (at("new"), NoFolder, "new"), (marked("blue") & "x", NoField, "blue"),
                (nothing() & ~(at("in") | said("size", "a")), NoField, "size")):
            with self.assertRaises(error) as caught:
                spare(shelves, search)
            self.assertEqual(caught.exception.value, value)

    def test_nothing_is_changed(self):
        shelves, search = example(), read_search("in in & below in | ~(marked red & everything) & shelf big")
        before = repr_of(search)
        spare(shelves, search), alike(shelves, search, "big"), same_shelves(shelves), parting(shelves, ("big", "new"))
        self.assertEqual(repr_of(search), before)
        self.assertTrue(shelves == example())
        self.assertEqual(WIDE.everything.table, (True,))


if __name__ == "__main__":
    unittest.main()

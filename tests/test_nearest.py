"""Section 17, its first half: nearest items."""

import itertools
import unittest

from helper import FIELDS, LARGEST, SMALL, WIDE, all_items, any_values, some_searches
from wishshelves.errors import BadNames, OtherFields
from wishshelves.fields import Fields
from wishshelves.items import Item
from wishshelves.nearest import nearest
from wishshelves.searches import (
    at, below, everything, filled, least, marked, most, nothing, said)

SAME = Fields(FIELDS.folders, marks=FIELDS.marks, numbers=FIELDS.numbers, kinds=FIELDS.kinds)
NEAR = Fields(FIELDS.folders, marks=FIELDS.marks, numbers=(("size", 4),), kinds=FIELDS.kinds)


def plain_nearest(item, here, locked):
    """Return the nearest of these items, looked at one by one from the least on."""
    best = None
    for other in here:
        unlike = item.apart(other)
        if not any(name in locked for name in unlike) and (best is None or len(unlike) < len(item.apart(best))):
            best = other
    return best


class NearestTest(unittest.TestCase):
    def test_the_examples_of_the_document(self):
        group = FIELDS.group(below("in") & (marked("red") | least("size", 2)))
        item = FIELDS.made("out", size=0)
        self.assertEqual([nearest(item, group).key, nearest(item, group, locked=("folder",))],
                         [("in", False, 2, None), None])
        self.assertEqual(nearest(item, group, locked=("size",)).key, ("in", True, 0, None))

    def test_held_against_a_look_at_every_item(self):
        answers = []
        for fields, many in ((FIELDS, 30), (SMALL, 40)):
            items = all_items(fields)
            locks = [names for count in (0, 1, 2) for names in itertools.combinations(fields.names, count)]
            for number, search in enumerate(some_searches(fields, many, 83)):
                group = fields.group(search)
                here = list(group.each())
                for item in items[number % 7::7]:
                    for locked in (*locks[number % 3::3], fields.names):
                        found, told = nearest(item, group, locked=locked), plain_nearest(item, here, locked)
                        self.assertEqual(found and found.key, told and told.key)
                        answers.append(len(item.apart(found)) if found else None)
        self.assertTrue({None, 0, 1, 2} <= set(answers))

    def test_wide_fields(self):
        items = all_items(WIDE)
        for number, search in enumerate(some_searches(WIDE, 40, 89)):
            group, item = WIDE.group(search), items[number * 131 % len(items)]
            here = list(group.each())
            for locked in ((), ("tone", "red"), WIDE.names[number % 3::3]):
                found, told = nearest(item, group, locked=locked), plain_nearest(item, here, locked)
                self.assertEqual(found and found.key, told and told.key)

    def test_what_it_returns(self):
        item, group = FIELDS.made("out"), FIELDS.group(at("in"))
        found = nearest(item=item, group=group, locked=())
        self.assertIsInstance(found, Item)
        self.assertEqual((found.key, found.fields), (("in", False, None, None), FIELDS))
        self.assertRaises(TypeError, nearest, item, group, ())
        self.assertEqual(nearest(SAME.made("out"), group), found)

    def test_an_item_of_the_group_is_the_nearest_one(self):
        for item in all_items(FIELDS):
            for locked in ((), ("red",), FIELDS.names):
                self.assertEqual(nearest(item, FIELDS.everything, locked=locked), item)

    def test_a_group_without_items(self):
        for locked in ((), ("folder",), FIELDS.names):
            self.assertIsNone(nearest(FIELDS.made("in"), FIELDS.nothing, locked=locked))

    def test_all_fields_locked(self):
        item, group = FIELDS.made("in", "red", size=2), FIELDS.group(marked("red"))
        self.assertEqual(nearest(item, group, locked=FIELDS.names), item)
        self.assertEqual(nearest(item, group, locked=FIELDS.names[::-1]), item)
        self.assertIsNone(nearest(item, ~group, locked=FIELDS.names))
        self.assertEqual(nearest(item, ~group, locked=("folder", "size", "kind")).key, ("in", False, 2, None))

    def test_as_few_fields_as_can_be_then_the_least(self):
        item = FIELDS.made("out", "red", size=3, kind="list")
        note, listed = said("kind", "note"), said("kind", "list")
        for search, key in (
                (at("in") | ~marked("red"), ("in", True, 3, "list")), (~marked("red"), ("out", False, 3, "list")),
                (at("in/new") & note | most("size", 0), ("out", True, 0, "list")),
                (~filled("size"), ("out", True, None, "list")), (most("size", 2), ("out", True, 0, "list")),
                (~listed, ("out", True, 3, None)), (filled("kind") - listed, ("out", True, 3, "note")),
                (below("in"), ("in", True, 3, "list")), (below("in") ^ filled("kind"), ("out", True, 3, "list")),
                (~filled("kind") & below("in/new"), ("in/new", True, 3, None)),
                (at("in") - marked("red") | note & most("size", 1), ("in", False, 3, "list"))):
            self.assertEqual(nearest(item, FIELDS.group(search)).key, key)

    def test_other_fields(self):
        for locked in ((), ("red",), ("zzz",), None, 1):
            for fields in (NEAR, WIDE, Fields(("in",))):
                self.assertRaises(OtherFields, nearest, FIELDS.made("in"), fields.everything, locked=locked)
                self.assertRaises(OtherFields, nearest, FIELDS.made("in"), fields.nothing, locked=locked)
        self.assertIsNotNone(nearest(FIELDS.made("in"), SAME.everything))

    def test_bad_names(self):
        for value in [*any_values(), "red", 0, ("zzz",), ("red", "red"), ("red", "in"), ["red"], ("red", ["size"]),
                      ("red", None), ("size", "kind", "size"), ("Red",), ("",), (("red",),), {"red": 1}]:
            for group in (FIELDS.everything, FIELDS.nothing):
                with self.assertRaises(BadNames) as caught:
                    nearest(FIELDS.made("in"), group, locked=value)
                self.assertIs(caught.exception.value, value)

    def test_the_largest_fields(self):
        item = LARGEST.made("d", "e", "h", i=50, j=0, l="d")
        group = LARGEST.group((least("i", 60) & below("a") | marked("f") & least("j", 99) & filled("k")) - at("a"))
        self.assertEqual(nearest(item, group).key, ("a/b", True, False, False, True, 60, 0, None, "d"))
        self.assertEqual(nearest(item, group, locked=("folder",)).key,
                         ("d", True, True, False, True, 50, 99, "a", "d"))
        self.assertEqual(nearest(item, group, locked=("j", "e")).key,
                         ("a/b", True, False, False, True, 60, 0, None, "d"))
        self.assertIsNone(nearest(item, group, locked=("i", "j")))
        for number, search in enumerate(some_searches(LARGEST, 30, 97, longest=16)):
            group = LARGEST.group(search)
            found = nearest(item, group)
            self.assertIs(found is None, not group)
            if found is not None:
                self.assertIn(found, group)
                for name in item.apart(found):
                    # With one field less there is none: the nearest one is as near as told.
                    other = nearest(item, group, locked=(name,))
                    self.assertTrue(other is None or len(item.apart(other)) >= len(item.apart(found)))

    def test_nothing_is_changed(self):
        item, group = FIELDS.made("out", "red"), FIELDS.group(at("in"))
        nearest(item, group, locked=("red",))
        self.assertEqual((item.key, group == FIELDS.group(at("in"))), (("out", True, None, None), True))
        self.assertIsNone(nearest(item, FIELDS.group(nothing()), locked=()))
        self.assertEqual(nearest(item, FIELDS.group(everything())), item)


if __name__ == "__main__":
    unittest.main()

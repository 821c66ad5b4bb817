"""Section 8: what matters to a group."""

import unittest

from helper import FIELDS, LARGEST, SMALL, WIDE, all_choices, all_items, repr_of, some_searches
from wishshelves.fields import Fields
from wishshelves.items import Item
from wishshelves.searches import (
    at, below, everything, filled, least, marked, most, nothing, said)


def plain_matters(fields, search):
    """Return (name, key, other key) for each field that matters, worked out from a look at every item."""
    items = all_items(fields)
    found = []
    for field, name in enumerate(fields.names):
        pair = plain_pair(fields, items, search, field)
        if pair is not None:
            found.append((name, *pair))
    return found


def plain_pair(fields, items, search, field):
    """Return the keys of the least two items that are unlike in one field alone, just one of them in the group."""
    for item in items:
        choices = all_choices(fields)[field]
        for value in choices[choices.index(item.key[field]) + 1:]:
            other = fields.item_of(item.key[:field] + (value,) + item.key[field + 1:])
            if search(item) != search(other):
                return item.key, other.key
    return None


def told(group):
    """Return what matters to a group, with keys instead of items."""
    return [(name, one.key, other.key) for name, one, other in group.matters()]


class MattersTest(unittest.TestCase):
    def test_the_examples_of_the_document(self):
        group = FIELDS.group(below("in") & (marked("red") | least("size", 2)))
        self.assertEqual(told(group)[:2], [
            ("folder", ("in", False, 2, None), ("out", False, 2, None)),
            ("red", ("in", False, None, None), ("in", True, None, None))])
        group = FIELDS.group(marked("red") | ~marked("red") & at("in"))
        self.assertEqual([name for name, one, other in group.matters()], ["folder", "red"])

    def test_matters_held_against_a_look_at_every_item(self):
        for fields, many in ((FIELDS, 150), (SMALL, 150), (WIDE, 10), (Fields(("a", "a/b", "b", "c")), 40)):
            for search in some_searches(fields, many, 47):
                self.assertEqual(told(fields.group(search)), plain_matters(fields, search), repr_of(search))

    def test_what_it_is(self):
        found = FIELDS.group(at("in") ^ marked("red")).matters()
        self.assertIsInstance(found, tuple)
        for row in found:
            self.assertIsInstance(row, tuple)
            name, one, other = row
            self.assertIsInstance(one, Item)
            self.assertIsInstance(other, Item)
            self.assertEqual(one.apart(other), (name,))
            self.assertTrue(one < other)

    def test_nothing_matters_to_everything_and_to_nothing(self):
        for fields in (FIELDS, LARGEST, SMALL):
            self.assertEqual(fields.everything.matters(), ())
            self.assertEqual(fields.nothing.matters(), ())
        self.assertEqual(FIELDS.group(everything() | at("in")).matters(), ())
        self.assertEqual(FIELDS.group(nothing() & marked("red")).matters(), ())
        self.assertEqual(SMALL.group(at("a")).matters(), ())

    def test_the_first_and_a_later_value_may_lead_to_the_same(self):
        search = ~(least("size", 1) & most("size", 2)) & said("kind", "note") | most("size", 2) & least(
            "size", 2) & said("kind", "list")
        self.assertEqual(told(FIELDS.group(search)), plain_matters(FIELDS, search))
        self.assertEqual(told(FIELDS.group(search))[0], (
            "size", ("in", False, None, "note"), ("in", False, 1, "note")))

    def test_the_other_item_is_not_always_the_next_one(self):
        search = at("in") & said("kind", "list") | at("in/new") & filled("kind") | at("out") & said("kind", "list")
        self.assertEqual(told(FIELDS.group(search))[0], (
            "folder", ("in", False, None, "note"), ("in/new", False, None, "note")))
        search = filled("size") & (said("kind", "note") ^ least("size", 2)) | ~filled("size") & said("kind", "note")
        self.assertEqual(told(FIELDS.group(search))[0], ("size", ("in", False, None, None), ("in", False, 2, None)))

    def test_the_largest_fields(self):
        group = LARGEST.group(below("a/b") & least("i", 98) & (marked("g") | said("l", "a")) | at("d") & most("j", 99))
        self.assertEqual(told(group), [
            ("folder", ("a",) + (False,) * 4 + (None, 0, None, None), ("d",) + (False,) * 4 + (None, 0, None, None)),
            ("g", ("a/b",) + (False,) * 4 + (98, None, None, None),
             ("a/b", False, False, True, False, 98, None, None, None)),
            ("i", ("a/b",) + (False,) * 4 + (None, None, None, "a"), ("a/b",) + (False,) * 4 + (98, None, None, "a")),
            ("j", ("d",) + (False,) * 4 + (None,) * 4, ("d",) + (False,) * 4 + (None, 0, None, None)),
            ("l", ("a/b",) + (False,) * 4 + (98, None, None, None), ("a/b",) + (False,) * 4 + (98, None, None, "a"))])
        for search in some_searches(LARGEST, 30, 53, longest=16):
            group = LARGEST.group(search)
            asked = {row[0] for row in group.table if not isinstance(row, bool)}
            self.assertEqual({name for name, one, other in group.matters()}, asked)
            for name, one, other in group.matters():
                self.assertEqual((one.apart(other), one < other, search(one) != search(other)), ((name,), True, True))


if __name__ == "__main__":
    unittest.main()

"""Section 4, as far as it speaks of items."""

import unittest

from helper import FIELDS, WIDE, all_choices, all_items, any_values
from wishshelves.errors import BadLaid, NoField
from wishshelves.fields import Fields


def places_of(item):
    """Return where each value of an item stands among the values of its field."""
    return [[repr(one) for one in choices].index(repr(value))
            for choices, value in zip(all_choices(item.fields), item.key)]


class ItemsTest(unittest.TestCase):
    def test_the_examples_of_the_document(self):
        fields = FIELDS
        item = fields.made("in", "red", size=2)
        self.assertEqual(
            [fields.names, fields.many, item.key, item.marks, item["size"], item["kind"], "red" in item],
            [("folder", "red", "size", "kind"), 90, ("in", True, 2, None), ("red",), 2, None, True])
        self.assertEqual(
            [item < fields.made("in/new"), item > fields.made("in", size=3),
             item.laid((("folder", "out"), ("red", False))).key],
            [True, True, ("out", False, 2, None)])

    def test_attributes(self):
        item = WIDE.made("a/b", "blue", "red", age=0, kind="zoo")
        self.assertIs(item.fields, WIDE)
        self.assertEqual(item.key, ("a/b", True, True, None, 0, "zoo", None))
        self.assertEqual((item.folder, item.marks), ("a/b", ("red", "blue")))
        self.assertEqual(WIDE.made("b", "blue").marks, ("blue",))
        self.assertEqual(WIDE.made("b").marks, ())
        for one in ("fields", "key", "marks"):
            self.assertIn(one, vars(item))

    def test_values_by_name(self):
        item = WIDE.made("a/b", "blue", age=0, kind="zoo")
        self.assertEqual([item[name] for name in ("size", "age", "kind", "tone")], [None, 0, "zoo", None])
        for name in [*any_values(), "folder", "red", "blue", "a", "zoo", "zzz", 0, 1, ("size",), ["size"]]:
            with self.assertRaises(NoField) as caught:
                item[name]
            self.assertIs(caught.exception.value, name)

    def test_marks_within(self):
        item = WIDE.made("a/b", "blue", age=0, kind="zoo")
        self.assertIs("blue" in item, True)
        for value in [*any_values(), "red", "a/b", "kind", "zoo", 0, ("blue",), ["blue"], "blu"]:
            self.assertIs(value in item, False)
            self.assertIs(value not in item, True)

    def test_equality(self):
        for one in all_items(FIELDS)[::4]:
            for other in all_items(FIELDS):
                self.assertEqual(one == other, repr(one.key) == repr(other.key))
                self.assertEqual(one != other, repr(one.key) != repr(other.key))

    def test_items_of_equal_fields_are_equal(self):
        same = Fields(FIELDS.folders, marks=FIELDS.marks, numbers=FIELDS.numbers, kinds=FIELDS.kinds)
        self.assertTrue(same.made("in", size=1) == FIELDS.made("in", size=1))
        self.assertFalse(same.made("in", size=1) < FIELDS.made("in", size=1))
        self.assertTrue(same.made("in", size=1) < FIELDS.made("in", size=2))

    def test_items_of_other_fields_are_unlike(self):
        self.assertFalse(Fields(("a",)).made("a") == Fields(("a", "b")).made("a"))
        self.assertFalse(Fields(("a",), marks=("x",)).made("a", "x") == Fields(("a",), marks=("y",)).made("a", "y"))

    def test_items_equal_nothing_else(self):
        item = FIELDS.made("out", "red", size=1)
        for value in [*any_values(), item.key, item.folder, list(item.key)]:
            self.assertIs(item == value, False)
            self.assertIs(value == item, False)
            self.assertIs(item != value, True)

    def test_order_goes_by_the_sequence_of_values(self):
        for fields, step in ((FIELDS, 1), (WIDE, 29)):
            items = all_items(fields)[::step]
            for number, one in enumerate(items):
                for other_number, other in enumerate(items):
                    self.assertIs(one < other, number < other_number)
                    self.assertIs(one <= other, number <= other_number)
                    self.assertIs(one > other, number > other_number)
                    self.assertIs(one >= other, number >= other_number)

    def test_order_field_by_field(self):
        made = WIDE.made
        rising = [
            made("a", "red", "blue", size=2), made("a/b"), made("a/b", "blue"), made("a/b", "red"),
            made("a/b", "red", size=0), made("a/b", "red", size=1), made("a/b", "red", size=1, kind="zoo"),
            made("a/b", "red", size=1, kind="ant"), made("a/b", "red", size=1, age=0), made("a/b/c"), made("b")]
        self.assertEqual([item.key for item in sorted(reversed(rising))], [item.key for item in rising])

    def test_nothing_else_can_be_compared(self):
        item = FIELDS.made("in")
        for value in (None, 1, "in", ("in", True, 2, None), FIELDS):
            for compare in (lambda: item < value, lambda: item <= value, lambda: item > value, lambda: item >= value):
                self.assertRaises(TypeError, compare)

    def test_items_cannot_be_iterated_over(self):
        item = FIELDS.made("in", "red", size=2)
        for call in (iter, list, tuple, sorted, dict):
            self.assertRaises(TypeError, call, item)
        with self.assertRaises(TypeError):
            for one in item:
                pass
        with self.assertRaises(TypeError):
            one, *others = item

    def test_apart(self):
        one = WIDE.made("a", "red", size=1, kind="zoo")
        self.assertEqual(one.apart(one), ())
        self.assertEqual(one.apart(other=WIDE.made("a", "red", size=1, kind="zoo")), ())
        self.assertEqual(one.apart(WIDE.made("b", "blue", age=1, tone="low")), WIDE.names)
        self.assertEqual(one.apart(WIDE.made("a", size=2, kind="ant")), ("red", "size", "kind"))
        self.assertEqual(one.apart(WIDE.made("a", "red", size=1)), ("kind",))

    def test_apart_of_all_items(self):
        for one in all_items(FIELDS)[::7]:
            for other in all_items(FIELDS):
                told = tuple(name for name, here, there in zip(FIELDS.names, places_of(one), places_of(other))
                             if here != there)
                self.assertEqual(one.apart(other), told)
                self.assertEqual(other.apart(one), told)


class LaidTest(unittest.TestCase):
    def refused(self, pairs):
        item = FIELDS.made("in", "red", size=2)
        with self.assertRaises(BadLaid) as caught:
            item.laid(pairs)
        self.assertIs(caught.exception.value, pairs)
        self.assertEqual(item.key, ("in", True, 2, None))

    def test_laid(self):
        item = FIELDS.made("in", "red", size=2)
        self.assertTrue(item.laid(()) == item)
        self.assertTrue(item.laid(pairs=(("size", 2),)) == item)
        self.assertEqual(item.laid((("size", None),)).key, ("in", True, None, None))
        self.assertEqual(item.laid((("red", True), ("kind", "list"))).key, ("in", True, 2, "list"))
        self.assertEqual(item.laid((("folder", "out"), ("red", False), ("size", 0), ("kind", "note"))).key,
                         ("out", False, 0, "note"))
        self.assertEqual(item.key, ("in", True, 2, None))

    def test_laid_with_what_is_apart(self):
        for one in all_items(FIELDS)[::7]:
            for other in all_items(FIELDS):
                pairs = tuple((name, other.key[FIELDS.names.index(name)]) for name in one.apart(other))
                laid = one.laid(pairs)
                self.assertTrue(laid == other)
                self.assertEqual((laid.key, laid.folder, laid.marks), (other.key, other.folder, other.marks))
                self.assertTrue(laid <= other and laid >= other)

    def test_any_values_are_refused(self):
        for value in [*any_values(), "size", 0]:
            self.refused(value)
            self.refused((value,))
            self.refused((("folder", "in"), value))
            self.refused(((value, "in"),))
            self.refused(((value, "note"),))
            self.refused((("folder", value),))

    def test_values_that_a_field_cannot_have(self):
        for value in any_values():
            if not isinstance(value, bool):
                self.refused((("red", value),))
            if value is not None:
                self.refused((("size", value),))
                self.refused((("kind", value),))
        for pair in (("red", 1), ("red", 0), ("red", None), ("size", 4), ("size", "2"), ("kind", "red"), ("kind", 0),
                     ("folder", "new"), ("folder", None), ("size", True), ("size", [2])):
            self.refused((pair,))

    def test_pairs_that_are_none(self):
        for pair in (("size",), (), ("size", 1, 1), ["size", 1], "ab", {"size": 1, "kind": None}, "size"):
            self.refused((pair,))
        self.refused([("size", 1)])
        self.refused({"size": 1})
        self.refused(("size", 1))

    def test_names_that_are_unknown_or_not_in_their_sequence(self):
        for value in (1, None, "note", "in", True):
            self.refused((("zzz", value),))
        self.refused((("size", 1), ("size", 1)))
        self.refused((("size", 1), ("size", 2)))
        self.refused((("size", 1), ("red", True)))
        self.refused((("kind", None), ("folder", "in")))
        self.refused((("folder", "in"), ("size", 1), ("red", True)))


if __name__ == "__main__":
    unittest.main()

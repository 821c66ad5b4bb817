"""Section 4: fields, and how items are made."""

import unittest

from helper import FIELDS, WIDE, all_choices, all_items, any_values
from wishshelves.errors import BadFields, BadKey, BadValue, NoField, NoFolder, NoMark
from wishshelves.fields import Fields
from wishshelves.items import Item


class MakingFieldsTest(unittest.TestCase):
    def refused(self, value, *args, **more):
        with self.assertRaises(BadFields) as caught:
            Fields(*args, **more)
        self.assertIs(caught.exception.value, value)

    def test_attributes(self):
        self.assertEqual(WIDE.folders, ("a", "a/b", "a/b/c", "b"))
        self.assertEqual(WIDE.marks, ("red", "blue"))
        self.assertEqual(WIDE.numbers, (("size", 2), ("age", 1)))
        self.assertEqual(WIDE.kinds, (("kind", ("zoo", "ant")), ("tone", ("low",))))
        self.assertEqual(WIDE.names, ("folder", "red", "blue", "size", "age", "kind", "tone"))
        self.assertEqual(WIDE.many, 4 * 2 * 2 * 4 * 3 * 3 * 2)

    def test_least_fields(self):
        fields = Fields(("a",))
        self.assertEqual((fields.folders, fields.marks, fields.numbers, fields.kinds), (("a",), (), (), ()))
        self.assertEqual((fields.names, fields.many), (("folder",), 1))

    def test_greatest_fields(self):
        fields = Fields(
            folders=("a", "a/b", "a/b/c", "b", "c", "d"), marks=("e", "f", "g", "h"), numbers=(("i", 99), ("j", 99)),
            kinds=(("k", ("a", "b", "c", "d")), ("l", ("d", "c", "b", "a"))))
        self.assertEqual(fields.many, 6 * 16 * 101 * 101 * 25)

    def test_equal_fields(self):
        same = Fields(FIELDS.folders, marks=FIELDS.marks, numbers=FIELDS.numbers, kinds=FIELDS.kinds)
        self.assertTrue(same == FIELDS)
        self.assertFalse(same != FIELDS)
        for more in ({}, {"marks": ("red",)}, {"numbers": (("size", 3),)}, {"kinds": (("kind", ("note", "list")),)}):
            self.assertFalse(Fields(FIELDS.folders, **more) == FIELDS)
        self.assertFalse(Fields(("in",)) == Fields(("out",)))
        self.assertFalse(Fields(("in",), marks=("a", "b")) == Fields(("in",), marks=("b", "a")))
        self.assertFalse(Fields(("in",), numbers=(("a", 1),)) == Fields(("in",), numbers=(("a", 2),)))
        self.assertFalse(Fields(("in",), kinds=(("a", ("b", "c")),)) == Fields(("in",), kinds=(("a", ("c", "b")),)))
        for value in any_values():
            self.assertEqual(Fields(("a",)) == value, False)

    def test_any_values_are_refused(self):
        for value in [*any_values(), "in", 5]:
            self.refused(value, value)
            self.refused(value, ("in",), marks=value)
            self.refused(value, ("in",), numbers=value)
            self.refused(value, ("in",), kinds=value)
            self.refused(value, folders=value, marks=value, numbers=value, kinds=value)

    def test_bad_folders(self):
        for value in (
                (), ("b", "a"), ("a", "a"), ("a/b",), ("a", "a/b/c"), ("a", "b/c"), ("a", "a/b", "a/b/c", "a/b/c/d"),
                ("in", "inn/new"), tuple("abcdefg"), ("abcdefghi",), ("a", None), ("a", ["b"]), ["a"], "a", ("a", "B")):
            self.refused(value, value)

    def test_folders_ascend_as_strings_do(self):
        self.assertEqual(Fields(("a", "a/c", "aa", "aa/b")).many, 4)
        self.refused(("a", "aa", "a/c"), ("a", "aa", "a/c"))

    def test_bad_marks(self):
        for value in (
                ("a", "a"), tuple("abcde"), ("folder",), ("self",), ("a", "self"), ("a/b",), ("abcdefghi",), ["a"]):
            self.refused(value, ("in",), marks=value)

    def test_bad_numbers(self):
        for value in (
                (("a", 0),), (("a", 100),), (("a", -1),), (("a", True),), (("a", None),), (("a", "b"),),
                (("a", 1), ("a", 2)), (("a", 1), ("b", 1), ("c", 1)), (("folder", 1),), (("self", 1),),
                (("A", 1),), (["a", 1],), (("a",),),
                (("a", 1, 1),), [("a", 1)], ("a", 1), {"a": 1}):
            self.refused(value, ("in",), numbers=value)

    def test_bad_kinds(self):
        for value in (
                (("a", ()),), (("a", ("b", "b")),), (("a", tuple("bcdef")),), (("a", ["b"]),), (("a", "b"),),
                (("a", ("B",)),), (("a", (None,)),), (("a", ("b",)), ("a", ("c",))), (("folder", ("b",)),),
                (("self", ("b",)),), (("a", ("b",)), ("c", ("b",)), ("d", ("b",))), (["a", ("b",)],), [("a", ("b",))]):
            self.refused(value, ("in",), kinds=value)

    def test_names_that_stand_ahead_already(self):
        numbers, kinds = (("b", 1), ("a", 1)), (("c", ("x",)), ("a", ("x",)))
        self.refused(numbers, ("in",), marks=("a",), numbers=numbers)
        self.refused(kinds, ("in",), marks=("a",), kinds=kinds)
        self.refused(kinds, ("in",), numbers=numbers, kinds=kinds)
        self.refused(numbers, ("in",), marks=("a",), numbers=numbers, kinds=kinds)

    def test_the_first_bad_argument_is_told(self):
        marks, numbers, kinds = ("self",), (("folder", 1),), (("self", ("x",)),)
        self.refused(marks, ("in",), marks=marks, numbers=numbers, kinds=kinds)
        self.refused(numbers, ("in",), numbers=numbers, kinds=kinds)
        self.refused(("b", "a"), ("b", "a"), marks=marks, numbers=numbers, kinds=kinds)

    def test_words_and_folders_may_have_names_of_fields(self):
        fields = Fields(("folder", "red"), marks=("red",), kinds=(("kind", ("red", "kind", "self", "folder")),))
        self.assertEqual(fields.made("red", "red", kind="red").key, ("red", True, "red"))

    def test_the_others_are_told_by_name_only(self):
        with self.assertRaises(TypeError):
            Fields(("in",), ("red",))


class MakingItemsTest(unittest.TestCase):
    def refused(self, error, told, call, *args, **more):
        with self.assertRaises(error) as caught:
            call(*args, **more)
        for name, value in told.items():
            self.assertIs(getattr(caught.exception, name), value)

    def test_made(self):
        self.assertIsInstance(FIELDS.made("in"), Item)
        self.assertEqual(FIELDS.made("in").key, ("in", False, None, None))
        self.assertEqual(FIELDS.made(folder="in/new").key, ("in/new", False, None, None))
        self.assertEqual(WIDE.made("a", "blue", tone="low", size=0).key, ("a", False, True, 0, None, None, "low"))
        self.assertEqual(WIDE.made("b", "blue", "red", age=1, kind="ant").key, ("b", True, True, None, 1, "ant", None))
        self.assertEqual(FIELDS.made("in", size=None, kind=None).key, ("in", False, None, None))
        self.assertEqual(FIELDS.made("out", size=3).key, ("out", False, 3, None))

    def test_no_folder(self):
        for value in [*any_values(), "new", "in/old", "red", 0]:
            self.refused(NoFolder, {"value": value}, FIELDS.made, value)
            self.refused(NoFolder, {"value": value}, FIELDS.made, value, value, zzz=value)

    def test_no_mark(self):
        for value in [*any_values(), "size", "folder", "in", "note"]:
            self.refused(NoMark, {"value": value}, FIELDS.made, "in", value)
            self.refused(NoMark, {"value": value}, FIELDS.made, "in", "red", value, "blue", zzz=1, size=9)
        self.refused(NoMark, {"value": "red"}, FIELDS.made, "in", "red", "red")
        self.refused(NoMark, {"value": "blue"}, WIDE.made, "a", "red", "blue", "blue")
        self.refused(NoMark, {"value": "blue"}, WIDE.made, "a", "blue", "green", "blue")

    def test_no_field(self):
        for name in ("zzz", "red", "marks", "Size", ""):
            self.refused(NoField, {"value": name}, FIELDS.made, "in", **{"size": 9, name: 1, "other": 1})

    def test_bad_value(self):
        for value in [*any_values(), 4, "1", "note"]:
            if value is not None:
                self.refused(BadValue, {"name": "size", "value": value}, FIELDS.made, "in", "red", size=value, kind=5)
        for value in [*any_values(), 0, 1, "other", "red"]:
            if value is not None:
                self.refused(BadValue, {"name": "kind", "value": value}, FIELDS.made, "in", kind=value, size=9)

    def test_a_mark_is_no_number(self):
        self.refused(BadValue, {"name": "size", "value": True}, FIELDS.made, "in", size=True)
        self.refused(BadKey, {}, FIELDS.item_of, ("in", 1, None, None))
        self.refused(BadKey, {}, FIELDS.item_of, ("in", 0, None, None))
        self.refused(BadKey, {}, FIELDS.item_of, ("in", True, True, None))

    def test_item_of(self):
        for fields in (FIELDS, WIDE, Fields(("a",))):
            keys = [item.key for item in all_items(fields)]
            self.assertEqual(len(keys), fields.many)
            self.assertEqual(len(set(keys)), fields.many)
            for key in keys:
                self.assertEqual(fields.item_of(key=key).key, key)
                self.assertEqual([isinstance(value, bool) for value in key],
                                 [name in fields.marks for name in fields.names])

    def test_bad_key(self):
        for value in [*any_values(), (), ("in",), ("in", True, 2), ("in", True, 2, None, None), ["in", True, 2, None],
                      ("new", True, 2, None), ("in", None, 2, None), ("in", True, 4, None), ("in", True, -1, None),
                      ("in", True, "2", None), ("in", True, 2, "red"), ("in", True, 2, ["note"]),
                      (["in"], True, 2, None)]:
            self.refused(BadKey, {"value": value}, FIELDS.item_of, value)

    def test_values_of_other_fields(self):
        for item in all_items(FIELDS)[::7]:
            self.refused(BadKey, {"value": item.key}, WIDE.item_of, item.key)

    def test_nothing_is_changed(self):
        before = (WIDE.folders, WIDE.marks, WIDE.numbers, WIDE.kinds, WIDE.names, WIDE.many, all_choices(WIDE))
        self.refused(BadValue, {}, WIDE.made, "a", "red", size=3)
        WIDE.made("a", "red", size=2)
        after = (WIDE.folders, WIDE.marks, WIDE.numbers, WIDE.kinds, WIDE.names, WIDE.many, all_choices(WIDE))
        self.assertEqual(before, after)


if __name__ == "__main__":
    unittest.main()

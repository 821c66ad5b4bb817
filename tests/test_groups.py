"""Section 7 without tables, and what section 4 leaves to groups: everything, nothing and group of Fields."""

import inspect
import itertools
import unittest
from operator import and_, ge, gt, le, lt, or_, sub, xor

from helper import FIELDS, LARGEST, SMALL, WIDE, Kept, all_items, any_values, repr_of, some_searches
from wishshelves.errors import NoField, NoFolder, NoShelf, OtherFields
from wishshelves.fields import Fields
from wishshelves.groups import Group
from wishshelves.items import Item
from wishshelves.searches import (
    at, below, everything, filled, least, marked, most, nothing, said, shelf)

SAME = Fields(FIELDS.folders, marks=FIELDS.marks, numbers=FIELDS.numbers, kinds=FIELDS.kinds)
NEAR = Fields(FIELDS.folders, marks=FIELDS.marks, numbers=(("size", 4),), kinds=FIELDS.kinds)
OPERATORS = (
    (and_, lambda one, other: one & other), (or_, lambda one, other: one | other),
    (xor, lambda one, other: one ^ other), (sub, lambda one, other: one - other))
COMPARISONS = (le, lt, ge, gt)


def keys_of(group):
    """Return the keys of the items of a group, as it gives them."""
    return [item.key for item in group.each()]


def told(group):
    """Return all that a group tells by attributes."""
    return repr((group.fields.names, group.many, group.least and group.least.key, group.table))


class MakingGroupsTest(unittest.TestCase):
    def test_the_examples_of_the_document(self):
        search = below("in") & (marked("red") | least("size", 2))
        group = FIELDS.group(search)
        self.assertEqual(
            [group.many, group.least.key, (group - FIELDS.group(marked("red"))).many, FIELDS.group(at("in")) <= group],
            [42, ("in", False, 2, None), 12, False])
        notes = FIELDS.group(search & at("in") & said("kind", "list"))
        self.assertEqual([one.key for one in notes.each() if "red" not in one],
                         [("in", False, 2, "list"), ("in", False, 3, "list")])

    def test_groups_have_just_the_items_of_which_their_searches_are_true(self):
        for fields, many in ((FIELDS, 150), (WIDE, 15), (SMALL, 150), (Fields(("a", "a/b", "b")), 40)):
            items = all_items(fields)
            for search in some_searches(fields, many, fields.many):
                group = fields.group(search)
                here = [item for item in items if search(item)]
                self.assertEqual(group.many, len(here), repr_of(search))
                self.assertEqual(keys_of(group), [item.key for item in here], repr_of(search))
                self.assertEqual(group.least, here[0] if here else None)
                self.assertIs(bool(group), bool(here))
                self.assertEqual([item in group for item in items], [search(item) for item in items])

    def test_everything_and_nothing(self):
        for fields in (FIELDS, WIDE, SMALL, Fields(("a",))):
            items = all_items(fields)
            self.assertIsInstance(fields.everything, Group)
            self.assertIsInstance(fields.nothing, Group)
            self.assertEqual((fields.everything.many, fields.nothing.many), (len(items), 0))
            self.assertEqual(keys_of(fields.everything), [item.key for item in items])
            self.assertEqual(keys_of(fields.nothing), [])
            self.assertEqual((fields.everything.least, fields.nothing.least), (items[0], None))
            self.assertTrue(fields.everything == fields.group(everything()) == ~fields.nothing)
            self.assertTrue(fields.nothing == fields.group(nothing()) == ~fields.everything)
            for name in ("everything", "nothing"):
                self.assertIn(name, vars(fields))
                self.assertEqual(getattr(fields, name).fields, fields)

    def test_attributes(self):
        for search in (at("in"), everything(), nothing()):
            group = FIELDS.group(search)
            self.assertIsInstance(group, Group)
            self.assertIs(group.fields, FIELDS)
            for name in ("fields", "many", "least", "table"):
                self.assertIn(name, vars(group))
        self.assertIsInstance(FIELDS.group(at("in")).least, Item)
        self.assertIs(type(FIELDS.group(at("in")).many), int)

    def test_words_and_numbers_that_are_not_there(self):
        for search, many in (
                (least("size", 99), 0), (least("size", 4), 0), (most("size", 99), 72), (most("size", 3), 72),
                (said("kind", "other"), 0), (filled("size"), 72), (least("size", 0), 72), (most("size", 0), 18),
                (~filled("size"), 18), (filled("kind"), 60)):
            self.assertEqual(FIELDS.group(search).many, many, repr_of(search))
        self.assertEqual(FIELDS.group(most("size", 99)), FIELDS.group(filled("size")))

    def test_arguments_by_name(self):
        self.assertEqual(FIELDS.group(search=at("in"), shelves=None).many, 30)
        self.assertEqual(FIELDS.group(shelves=Kept(FIELDS, x=at("in")), search=shelf("x")).many, 30)
        self.assertIsNone(FIELDS.group(at("in")).apart(other=FIELDS.group(at("in"))))

    def test_shelves(self):
        kept = Kept(FIELDS, red=marked("red"), big=least("size", 2) & "red", new=at("in/new") | ~shelf("big"))
        for search in some_searches(FIELDS, 60, 5, names=("red", "big", "new")):
            self.assertEqual(keys_of(FIELDS.group(search, kept)),
                             [item.key for item in all_items(FIELDS) if search(item, kept)], repr_of(search))

    def test_shelves_that_are_named_again_and_again(self):
        searches = {"a": marked("red")}
        for name, below_it in zip("bcdefgh", "abcdefg"):
            search = shelf(below_it)
            for number in range(8):
                search = search ^ below_it
            searches[name] = search
        self.assertEqual(FIELDS.group(shelf("h"), Kept(FIELDS, **searches)), FIELDS.group(marked("red")))

    def test_errors_are_those_of_a_search_of_an_item(self):
        kept = Kept(FIELDS, x=at("in"))
        for search, error, value in (
                (at("new"), NoFolder, "new"), (below("old"), NoFolder, "old"), (marked("blue"), NoField, "blue"),
                (least("kind", 1), NoField, "kind"), (most("red", 1), NoField, "red"), (filled("red"), NoField, "red"),
                (said("size", "note"), NoField, "size"), (shelf("y"), NoShelf, "y"),
                (nothing() & at("new") & marked("blue"), NoFolder, "new"),
                (~(shelf("y") | at("new")), NoShelf, "y"), (shelf("x") & marked("blue") & "y", NoField, "blue")):
            with self.assertRaises(error) as caught:
                FIELDS.group(search, kept)
            self.assertEqual(caught.exception.value, value)
        with self.assertRaises(NoShelf) as caught:
            FIELDS.group(shelf("x"))
        self.assertEqual(caught.exception.value, "x")

    def test_other_fields_come_ahead_of_what_does_not_fit(self):
        for search in (at("in"), at("new"), marked("blue"), shelf("y"), everything()):
            for fields in (WIDE, NEAR):
                self.assertRaises(OtherFields, FIELDS.group, search, Kept(fields, x=everything()))
        self.assertEqual(FIELDS.group(shelf("x"), Kept(SAME, x=at("in"))).many, 30)


class OperatorsTest(unittest.TestCase):
    def test_operators(self):
        for fields, many in ((FIELDS, 25), (SMALL, 25)):
            searches = some_searches(fields, many, 11)
            groups = [fields.group(search) for search in searches]
            sets = [set(keys_of(group)) for group in groups]
            for one, other in itertools.product(range(many), repeat=2):
                for operator, joined in OPERATORS:
                    group = operator(groups[one], groups[other])
                    self.assertEqual(keys_of(group), [
                        item.key for item in all_items(fields) if item.key in operator(sets[one], sets[other])])
            for group, keys in zip(groups, sets):
                self.assertEqual(keys_of(~group), [item.key for item in all_items(fields) if item.key not in keys])

    def test_what_operators_make_is_the_group_of_the_joined_search(self):
        for fields in (FIELDS, WIDE, SMALL, LARGEST):
            searches = some_searches(fields, 12, 23, longest=8)
            for one, other in itertools.product(searches, repeat=2):
                for operator, joined in OPERATORS:
                    group = operator(fields.group(one), fields.group(other))
                    self.assertTrue(group == fields.group(joined(one, other)))
                    self.assertEqual(told(group), told(fields.group(joined(one, other))))
            for search in searches:
                self.assertEqual(told(~fields.group(search)), told(fields.group(~search)))

    def test_comparisons(self):
        groups = [FIELDS.group(search) for search in some_searches(FIELDS, 40, 3)]
        groups += [FIELDS.everything, FIELDS.nothing, FIELDS.group(at("in")), FIELDS.group(at("in") & marked("red"))]
        for one, other in itertools.product(groups, repeat=2):
            for compare in COMPARISONS:
                self.assertIs(compare(one, other), compare(set(keys_of(one)), set(keys_of(other))))
            self.assertIs(one == other, keys_of(one) == keys_of(other))
            self.assertIs(one != other, keys_of(one) != keys_of(other))

    def test_apart(self):
        groups = [FIELDS.group(search) for search in some_searches(FIELDS, 30, 7)] + [FIELDS.nothing, FIELDS.everything]
        for one, other in itertools.product(groups, repeat=2):
            items = [item for item in all_items(FIELDS) if (item in one) != (item in other)]
            self.assertEqual(one.apart(other), items[0] if items else None)

    def test_groups_of_unlike_fields(self):
        for fields in (NEAR, WIDE, Fields(("in",)), Fields(FIELDS.folders)):
            for one, other in ((FIELDS.everything, fields.everything), (FIELDS.nothing, fields.nothing),
                               (FIELDS.group(at("in")), fields.nothing), (FIELDS.everything, fields.nothing)):
                for here, there in ((one, other), (other, one)):
                    for operator in (*[operator for operator, joined in OPERATORS], *COMPARISONS):
                        self.assertRaises(OtherFields, operator, here, there)
                    self.assertRaises(OtherFields, here.apart, there)
                    self.assertIs(here == there, False)
                    self.assertIs(here != there, True)

    def test_groups_of_equal_fields(self):
        for search in some_searches(FIELDS, 20, 13):
            one, other = FIELDS.group(search), SAME.group(search)
            self.assertTrue(one == other)
            self.assertTrue((one & other) == one and one <= other and one >= other)
            self.assertFalse(one < other or one > other or one != other)
            self.assertIsNone(one.apart(other))
            self.assertEqual([item in one for item in all_items(SAME)], [item in one for item in all_items(FIELDS)])

    def test_groups_equal_nothing_else(self):
        group = FIELDS.group(at("in") & marked("red"))
        for value in [*any_values(), at("in") & marked("red"), keys_of(group), group.table, group.many]:
            self.assertIs(group == value, False)
            self.assertIs(value == group, False)
            self.assertIs(group != value, True)

    def test_any_value_within(self):
        for group in (FIELDS.everything, FIELDS.group(at("in")), FIELDS.nothing):
            for value in [*any_values(), "in", 0, ("in", False, None, None), WIDE.made("a"), NEAR.made("in")]:
                here = isinstance(value, Item) and value.fields == FIELDS and value.key[0] == "in" and group.many > 0
                self.assertIs(value in group, here)
                self.assertIs(value not in group, not here)

    def test_the_operands_stay_as_they_are(self):
        one, other = FIELDS.group(at("in") ^ least("size", 2)), FIELDS.group(marked("red") | said("kind", "note"))
        before = (told(one), told(other), keys_of(one), keys_of(other))
        for operator in (*[operator for operator, joined in OPERATORS], *COMPARISONS):
            operator(one, other), operator(other, one)
            self.assertRaises(OtherFields, operator, one, NEAR.everything)
        ~one, ~other, one.apart(other), one.matters(), list(one.each()), bool(one), FIELDS.made("in") in one
        self.assertEqual(before, (told(one), told(other), keys_of(one), keys_of(other)))

    def test_in_place_operators_leave_other_names_of_the_group(self):
        group = same = FIELDS.group(at("in"))
        group &= FIELDS.group(marked("red"))
        group |= FIELDS.group(at("out"))
        group ^= FIELDS.everything
        group -= FIELDS.group(at("in/new"))
        self.assertEqual((same.many, group.many), (30, 15))

    def test_nothing_else_can_be_put_together_with_a_group(self):
        for value in (None, 1, "x", at("in"), FIELDS.made("in"), FIELDS):
            for operator in (*[operator for operator, joined in OPERATORS], *COMPARISONS):
                self.assertRaises(TypeError, operator, FIELDS.everything, value)


class EachTest(unittest.TestCase):
    def test_each_is_a_generator(self):
        for group in (FIELDS.everything, FIELDS.nothing, FIELDS.group(at("in"))):
            self.assertTrue(inspect.isgenerator(group.each()))
            self.assertEqual(keys_of(group), keys_of(group))

    def test_items_of_each(self):
        for item in FIELDS.group(marked("red")).each():
            self.assertIsInstance(item, Item)
            self.assertIs(item.fields, FIELDS)
            self.assertEqual((item.folder, item.marks), (item.key[0], ("red",)))
            self.assertTrue(item == FIELDS.item_of(item.key))

    def test_groups_cannot_be_iterated_over(self):
        for call in (iter, list, tuple):
            self.assertRaises(TypeError, call, FIELDS.everything)


class LargestTest(unittest.TestCase):
    """Fields of 24 million items answer without a look at each of them."""

    def many(self, search):
        return LARGEST.group(search).many

    def test_how_many(self):
        whole = 6 * 16 * 101 * 101 * 25
        self.assertEqual(self.many(everything()), whole)
        self.assertEqual(self.many(at("b")), whole // 6)
        self.assertEqual(self.many(below("a")), whole // 2)
        self.assertEqual(self.many(marked("e") & ~marked("h")), whole // 4)
        self.assertEqual(self.many(least("i", 1) & most("i", 98)), whole // 101 * 98)
        self.assertEqual(self.many(~filled("j")), whole // 101)
        self.assertEqual(self.many(least("i", 99) & most("j", 0)), whole // 101 // 101)
        self.assertEqual(self.many(said("k", "c") ^ said("l", "c")), whole // 25 * 8)
        self.assertEqual(self.many(at("b") ^ marked("e") ^ least("i", 50)), whole // 2)
        self.assertEqual((LARGEST.everything - LARGEST.group(at("d") & least("i", 99))).many, whole - whole // 606)

    def test_least_and_each(self):
        group = LARGEST.group(below("a/b") & marked("f") & least("i", 97) & said("l", "b"))
        self.assertEqual(group.least.key, ("a/b", False, True, False, False, 97, None, None, "b"))
        self.assertEqual([item.key[4:] for item in itertools.islice(group.each(), 6)], [
            (False, 97, None, None, "b"), (False, 97, None, "a", "b"), (False, 97, None, "b", "b"),
            (False, 97, None, "c", "b"), (False, 97, None, "d", "b"), (False, 97, 0, None, "b")])
        self.assertEqual(next(LARGEST.everything.each()).key, ("a",) + (False,) * 4 + (None,) * 4)
        self.assertEqual((~LARGEST.group(at("a") & most("i", 99))).apart(LARGEST.everything).key,
                         ("a", False, False, False, False, 0, None, None, None))

    def test_items_within(self):
        for search in some_searches(LARGEST, 40, 31, longest=16):
            group = LARGEST.group(search)
            for number in range(0, 2000, 13):
                item = LARGEST.made(
                    LARGEST.folders[number % 6], *LARGEST.marks[number % 3:number % 5], i=number % 100,
                    j=number // 7 % 100 if number % 5 else None, k=(None, "a", "d")[number % 3],
                    l=("a", None, "c")[number // 3 % 3])
                self.assertIs(item in group, search(item))

    def test_operators(self):
        groups = [LARGEST.group(search) for search in some_searches(LARGEST, 12, 37, longest=16)]
        for one, other in itertools.product(groups, repeat=2):
            self.assertEqual((one | other).many, one.many + other.many - (one & other).many)
            self.assertEqual((one ^ other).many, (one - other).many + (other - one).many)
            self.assertIs(one <= other, (one - other).many == 0)
            self.assertTrue(~(one | other) == ~one & ~other)
            self.assertEqual(one.apart(other), (one ^ other).least)


if __name__ == "__main__":
    unittest.main()

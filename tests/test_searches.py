"""Section 5: searches."""

import itertools
import unittest
from operator import iand, ior, isub, ixor

from helper import FIELDS, WIDE, Kept, all_items, any_values, repr_of
from wishshelves.errors import BadWord, NoField, NoFolder, NoShelf, OtherFields, TooLong
from wishshelves.fields import Fields
from wishshelves.searches import (
    Search, at, below, everything, filled, least, marked, most, nothing, said, shelf)

WORDS = {"and": lambda a, b: a & b, "or": lambda a, b: a | b, "either": lambda a, b: a ^ b}
OPERATORS = {**WORDS, "without": lambda a, b: a - b}


def marks(many):
    """Return a search of so many conditions, none of which stand in a row of & or |."""
    search = marked("red")
    for number in range(many - 1):
        search = search ^ marked("red")
    return search


class ConditionsTest(unittest.TestCase):
    def refused(self, value, call, *args, **more):
        with self.assertRaises(BadWord) as caught:
            call(*args, **more)
        self.assertIs(caught.exception.value, value)

    def test_parts(self):
        made = [
            (at("in"), ("at", "in")), (at("a/b/c"), ("at", "a/b/c")), (below("in/new"), ("below", "in/new")),
            (marked("red"), ("marked", "red")), (least("size", 2), ("least", "size", 2)),
            (most("size", 0), ("most", "size", 0)), (filled("kind"), ("filled", "kind")),
            (said("kind", "note"), ("said", "kind", "note")), (shelf("x"), ("shelf", "x")),
            (everything(), ("everything",)), (nothing(), ("nothing",))]
        for search, parts in made:
            self.assertIsInstance(search, Search)
            self.assertEqual(search.parts, parts)
            self.assertEqual([repr(one) for one in search.parts], [repr(one) for one in parts])
            self.assertEqual(search.many, 1)
            self.assertEqual(search.shelves, ("x",) if parts[0] == "shelf" else ())

    def test_arguments_by_name(self):
        self.assertEqual(at(path="in").parts, ("at", "in"))
        self.assertEqual(below(path="in").parts, ("below", "in"))
        self.assertEqual(marked(name="red").parts, ("marked", "red"))
        self.assertEqual(least(number=2, name="size").parts, ("least", "size", 2))
        self.assertEqual(most(number=2, name="size").parts, ("most", "size", 2))
        self.assertEqual(filled(name="size").parts, ("filled", "size"))
        self.assertEqual(said(word="note", name="kind").parts, ("said", "kind", "note"))
        self.assertEqual(shelf(name="x").parts, ("shelf", "x"))

    def test_attributes_are_set_on_each_search(self):
        for search in (at("in"), at("in") & "x", ~at("in")):
            for name in ("parts", "shelves", "many"):
                self.assertIn(name, vars(search))

    def test_lengths_of_names(self):
        for made in (marked, filled, shelf):
            for name in ("a", "abcdefgh"):
                self.assertEqual(made(name).parts[1], name)
            self.refused("abcdefghi", made, "abcdefghi")
        for made in (least, most):
            self.assertEqual(made("abcdefgh", 1).parts[1], "abcdefgh")
            self.refused("abcdefghi", made, "abcdefghi", 1)
        self.assertEqual(said("abcdefgh", "abcdefgh").parts, ("said", "abcdefgh", "abcdefgh"))
        self.refused("abcdefghi", said, "abcdefghi", "a")
        self.refused("abcdefghi", said, "a", "abcdefghi")

    def test_lengths_of_paths(self):
        for made in (at, below):
            for path in ("a", "a/b", "abcdefgh/abcdefgh/abcdefgh"):
                self.assertEqual(made(path).parts[1], path)
            for path in ("a/b/c/d", "a/b/abcdefghi", "a/b/", "/a", "a//b", ""):
                self.refused(path, made, path)

    def test_a_path_is_no_name(self):
        for made in (marked, filled, shelf):
            self.refused("in/new", made, "in/new")
        self.refused("in/new", least, "in/new", 1)
        self.refused("in/new", said, "kind", "in/new")

    def test_numbers(self):
        for made in (least, most):
            for number in (0, 1, 98, 99):
                self.assertEqual(repr(made("size", number).parts[2]), repr(number))
            for number in (-1, 100, True, False, None, "1", [1], (1,), 10 ** 30 - 1):
                self.refused(number, made, "size", number)

    def test_any_values_are_refused(self):
        for value in [*any_values(), 0, 1]:
            for made in (at, below, marked, filled, shelf):
                self.refused(value, made, value)
            for made in (least, most):
                self.refused(value, made, value, 1)
                self.refused(value, made, value, -1)
            self.refused(value, said, value, "note")
            self.refused(value, said, value, None)
            self.refused(value, said, "kind", value)
        for value in [*any_values(), "size"]:
            self.refused(value, least, "size", value)
            self.refused(value, most, "size", value)


class OperatorsTest(unittest.TestCase):
    def test_the_examples_of_the_document(self):
        search = below("in") & (marked("red") | least("size", 2))
        item = FIELDS.made("in", "red", size=2)
        self.assertEqual(
            [search(item), (~search)(item), search(FIELDS.made("out", "red")), search.many, (search & "x").shelves],
            [True, False, False, 3, ("x",)])
        self.assertEqual(
            [("x" - at("out")).parts[0], (at("in") & (at("out") & search)).parts[0],
             len((at("in") & (at("out") & search)).parts)],
            ["and", "and", 5])

    def test_rows(self):
        one, other = at("in"), marked("red")
        for word, joined in WORDS.items():
            self.assertEqual(joined(one, other).parts, (word, one, other))
            self.assertFalse(joined(one, other) == joined(other, one))
            self.assertEqual(joined(one, one).parts, (word, one, one))
        self.assertEqual((one - other).parts, ("and", one, ~other))
        self.assertEqual((~one).parts, ("not", one))
        self.assertEqual((~(one & other)).parts, ("not", one & other))

    def test_not_of_not(self):
        for search in (at("in"), at("in") & "x", at("in") ^ ("x" | at("out")), everything()):
            self.assertEqual((~~search).parts, search.parts)
            self.assertEqual((~~~search).parts, ("not", search))

    def test_without_is_and_not(self):
        one, other = at("in"), marked("red")
        self.assertTrue(one - other == one & ~other)
        self.assertEqual((one - ~other).parts, ("and", one, other))
        self.assertEqual((one - ~(other & "x")).parts, ("and", one, other, shelf("x")))
        self.assertEqual(((one & other) - "x").parts, ("and", one, other, ~shelf("x")))
        self.assertEqual(("x" - (one & other)).parts, ("and", shelf("x"), ~(one & other)))
        self.assertEqual(("x" - ~(one & other)).parts, ("and", shelf("x"), one, other))
        self.assertEqual((one - (other - "x")).parts, ("and", one, ~(other & ~shelf("x"))))

    def test_rows_are_laid_flat_whatever_the_sequence(self):
        a, b, c, d = at("in"), marked("red"), shelf("x"), filled("size")
        for word, joined in WORDS.items():
            flat = (word, a, b, c, d)
            for search in (
                    joined(joined(joined(a, b), c), d), joined(joined(a, b), joined(c, d)),
                    joined(a, joined(b, joined(c, d))), joined(a, joined(joined(b, c), d)),
                    joined(joined(a, joined(b, c)), d), joined(joined(a, b), joined("x", d)),
                    joined(joined(a, joined(b, "x")), d), joined(a, joined(b, joined("x", d)))):
                self.assertEqual(search.parts, flat)

    def test_rows_of_another_operator_stay_as_they_are(self):
        a, b, c = at("in"), marked("red"), shelf("x")
        for (word, joined), (other_word, other) in itertools.permutations(WORDS.items(), 2):
            self.assertEqual(joined(a, other(b, c)).parts, (word, a, other(b, c)))
            self.assertEqual(joined(other(a, b), c).parts, (word, other(a, b), c))
            self.assertEqual(other(a, joined(other(b, c), a)).parts, (other_word, a, joined(other(b, c), a)))
        for word, joined in WORDS.items():
            self.assertEqual(joined(a, ~joined(b, c)).parts, (word, a, ~joined(b, c)))
            self.assertEqual(joined(a, ~~joined(b, c)).parts, (word, a, b, c))

    def test_strings_are_shelves(self):
        one = at("in")
        for word, joined in WORDS.items():
            self.assertEqual(joined(one, "x").parts, (word, one, shelf("x")))
            self.assertEqual(joined("x", one).parts, (word, shelf("x"), one))
        self.assertEqual((one - "x").parts, ("and", one, ~shelf("x")))
        self.assertEqual(("x" - one).parts, ("and", shelf("x"), ~one))

    def test_strings_that_are_no_names(self):
        for operator in OPERATORS.values():
            for search in (at("in"), marks(16)):
                for value in ("", "A", "in/new", "abcdefghi", "a b", "\u00e4", "a1", "a\n"):
                    for sides in ((search, value), (value, search)):
                        with self.assertRaises(BadWord) as caught:
                            operator(*sides)
                        self.assertIs(caught.exception.value, value)

    def test_what_is_no_search_cannot_stand_beside_an_operator(self):
        for operator in OPERATORS.values():
            for value in any_values():
                if not isinstance(value, (str, Search)):
                    self.assertRaises(TypeError, operator, at("in"), value)
                    self.assertRaises(TypeError, operator, value, at("in"))

    def test_in_place(self):
        first = at("in")
        search = first
        search &= marked("red")
        self.assertEqual(search.parts, ("and", first, marked("red")))
        search |= "x"
        self.assertEqual(search.parts, ("or", first & marked("red"), shelf("x")))
        search ^= first
        self.assertEqual(search.parts[0], "either")
        search -= "y"
        self.assertEqual((search.parts[0], search.parts[2]), ("and", ~shelf("y")))
        self.assertEqual(first.parts, ("at", "in"))
        for word, in_place in (("and", iand), ("or", ior), ("either", ixor)):
            self.assertEqual(in_place("x", first).parts, (word, shelf("x"), first))
        self.assertEqual(isub("x", first).parts, ("and", shelf("x"), ~first))

    def test_in_place_leaves_other_names_of_the_search(self):
        for in_place in (iand, ior, ixor, isub):
            search = at("in") & "x" | marked("red")
            before = repr_of(search)
            self.assertNotEqual(repr_of(in_place(search, "y")), before)
            self.assertEqual(repr_of(search), before)

    def test_the_operands_stay_as_they_are(self):
        for operator in OPERATORS.values():
            one, other = at("in") & "x", marked("red") | least("size", 2) ^ "y"
            before = (repr_of(one), repr_of(other), one.many, other.many, one.shelves, other.shelves)
            operator(one, other), operator(other, one), operator(one, "z"), operator("z", other), ~one, ~other
            self.assertRaises(TooLong, operator, marks(14), other)
            self.assertEqual(before, (repr_of(one), repr_of(other), one.many, other.many, one.shelves, other.shelves))

    def test_sixteen_conditions(self):
        for operator in OPERATORS.values():
            for many in range(1, 16):
                self.assertEqual(operator(marks(many), marks(16 - many)).many, 16)
            self.assertEqual(operator(marks(15), "x").many, 16)
            self.assertEqual(operator("x", marks(15)).many, 16)
        self.assertEqual((~marks(16)).many, 16)
        self.assertEqual((everything() & nothing() & ~everything()).many, 3)

    def test_seventeen_conditions(self):
        for operator in OPERATORS.values():
            sides = [(marks(many), marks(17 - many)) for many in range(1, 17)]
            sides += [(marks(16), "x"), ("x", marks(16)), (~marks(16), everything()), (nothing(), ~marks(16))]
            for one, other in sides:
                with self.assertRaises(TooLong) as caught:
                    operator(one, other)
                self.assertEqual(caught.exception.most, 16)

    def test_shelves_and_many(self):
        search = ("b" & at("in")) | ~("a" ^ shelf("b")) - "c" | "aa"
        self.assertEqual(search.shelves, ("a", "aa", "b", "c"))
        self.assertEqual(search.many, 6)
        self.assertEqual((at("in") & marked("red")).shelves, ())
        self.assertEqual((~(shelf("b") & "a")).shelves, ("a", "b"))
        self.assertEqual((shelf("x") & "x").shelves, ("x",))
        self.assertEqual((shelf("x") & "x").many, 2)

    def test_equality(self):
        made = [
            lambda: at("in"), lambda: at("in/new"), lambda: below("in"), lambda: marked("in"), lambda: filled("in"),
            lambda: shelf("in"), lambda: least("size", 1), lambda: least("size", 2), lambda: most("size", 1),
            lambda: said("size", "a"), everything, nothing, lambda: at("in") & "x", lambda: "x" & at("in"),
            lambda: at("in") | "x", lambda: at("in") ^ "x", lambda: ~at("in"), lambda: ~(at("in") & "x"),
            lambda: at("in") & "x" & "x", lambda: at("in") & ("x" | at("in"))]
        for (number, one), (other_number, other) in itertools.product(enumerate(made), repeat=2):
            self.assertIs(one() == other(), number == other_number)
            self.assertIs(one() != other(), number != other_number)

    def test_searches_equal_nothing_else(self):
        for search in (marked("red"), shelf("x"), shelf("x") & "y", ~shelf("x")):
            for value in [*any_values(), "x", "red", search.parts]:
                if not isinstance(value, Search):
                    self.assertIs(search == value, False)
                    self.assertIs(value == search, False)

    def test_searches_cannot_be_iterated_over(self):
        for search in (at("in"), at("in") & "x"):
            for call in (iter, list, tuple):
                self.assertRaises(TypeError, call, search)


CONDITIONS = [
    (at("in"), lambda key: key[0] == "in"),
    (at("in/new"), lambda key: key[0] == "in/new"),
    (below("in"), lambda key: key[0] in ("in", "in/new")),
    (below("in/new"), lambda key: key[0] == "in/new"),
    (below("out"), lambda key: key[0] == "out"),
    (marked("red"), lambda key: key[1] is True),
    (least("size", 0), lambda key: key[2] is not None),
    (least("size", 2), lambda key: key[2] in (2, 3)),
    (least("size", 3), lambda key: key[2] == 3),
    (least("size", 4), lambda key: False),
    (least("size", 99), lambda key: False),
    (most("size", 0), lambda key: key[2] == 0),
    (most("size", 2), lambda key: key[2] in (0, 1, 2)),
    (most("size", 3), lambda key: key[2] is not None),
    (most("size", 99), lambda key: key[2] is not None),
    (filled("size"), lambda key: key[2] is not None),
    (filled("kind"), lambda key: key[3] is not None),
    (said("kind", "note"), lambda key: key[3] == "note"),
    (said("kind", "other"), lambda key: False),
    (everything(), lambda key: True),
    (nothing(), lambda key: False),
]


class TruthTest(unittest.TestCase):
    def same(self, search, told, shelves=None):
        for item in all_items(FIELDS):
            self.assertIs(search(item, shelves), told(item.key), (repr_of(search), item.key))

    def test_conditions(self):
        for search, told in CONDITIONS:
            self.same(search, told)
            self.same(~search, lambda key: not told(key))

    def test_two_conditions(self):
        for (one, told), (other, also) in itertools.product(CONDITIONS[::2], CONDITIONS[1::3]):
            self.same(one & other, lambda key: told(key) and also(key))
            self.same(one | other, lambda key: told(key) or also(key))
            self.same(one ^ other, lambda key: told(key) != also(key))
            self.same(one - other, lambda key: told(key) and not also(key))

    def test_three_conditions(self):
        (a, in_a), (b, in_b), (c, in_c) = CONDITIONS[2], CONDITIONS[5], CONDITIONS[12]
        self.same(a ^ b ^ c, lambda key: (in_a(key) + in_b(key) + in_c(key)) in (1, 3))
        self.same(a ^ ~(b ^ c), lambda key: in_a(key) != (in_b(key) == in_c(key)))
        self.same(a & b & c, lambda key: in_a(key) and in_b(key) and in_c(key))
        self.same(a | b | c, lambda key: in_a(key) or in_b(key) or in_c(key))
        self.same(a & (b | ~c), lambda key: in_a(key) and (in_b(key) or not in_c(key)))
        self.same(a - (b - c), lambda key: in_a(key) and not (in_b(key) and not in_c(key)))

    def test_below_goes_by_the_slash(self):
        fields = Fields(("in", "in/new", "inn", "inn/in", "inn/in/new"))
        told = {path: [below(name)(fields.made(path)) for name in ("in", "inn", "inn/in")] for path in fields.folders}
        self.assertEqual(told, {
            "in": [True, False, False], "in/new": [True, False, False], "inn": [False, True, False],
            "inn/in": [False, True, True], "inn/in/new": [False, True, True]})

    def test_several_fields_of_a_kind(self):
        item = WIDE.made("a/b/c", "blue", size=2, tone="low")
        for search, told in (
                (marked("red"), False), (marked("blue"), True), (least("size", 2), True), (least("age", 0), False),
                (most("age", 99), False), (filled("age"), False), (filled("tone"), True), (filled("kind"), False),
                (said("tone", "low"), True), (said("kind", "low"), False), (below("a"), True), (at("a/b"), False)):
            self.assertIs(search(item), told, search.parts)

    def test_arguments_by_name(self):
        self.assertIs(at("in")(item=FIELDS.made("in"), shelves=None), True)
        self.assertIs(at("in")(shelves=Kept(FIELDS), item=FIELDS.made("out")), False)

    def test_shelves(self):
        kept = Kept(FIELDS, red=marked("red"), big=least("size", 2) & "red", new=at("in/new") | ~shelf("big"))
        red, big = (lambda key: key[1]), (lambda key: key[1] and key[2] in (2, 3))
        self.same(shelf("red"), red, kept)
        self.same(shelf("big"), big, kept)
        self.same(shelf("new"), lambda key: key[0] == "in/new" or not big(key), kept)
        self.same("red" - shelf("big"), lambda key: red(key) and not big(key), kept)
        self.same(shelf("red") ^ "big" ^ "red", big, kept)
        self.same(at("in"), lambda key: key[0] == "in", kept)

    def test_shelves_that_are_named_again_and_again(self):
        searches = {"a": marked("red")}
        for name, below_it in zip("bcdefgh", "abcdefg"):
            search = shelf(below_it)
            for number in range(8):
                search = search ^ below_it
            searches[name] = search
        self.same(shelf("h"), lambda key: key[1], Kept(FIELDS, **searches))

    def test_shelves_deep_within_one_another(self):
        searches = {"a": marked("red")}
        for name, below_it in zip("bcdefgh", "abcdefg"):
            search = shelf(below_it)
            for number in range(7):
                search = ~(everything() & ~(nothing() | search))
            searches[name] = ~~search
        self.same(shelf("h"), lambda key: key[1], Kept(FIELDS, **searches))


class FitTest(unittest.TestCase):
    def refused(self, error, value, search, shelves=None):
        for item in (FIELDS.made("in"), FIELDS.made("out", "red", size=2, kind="list")):
            with self.assertRaises(error) as caught:
                search(item, shelves)
            self.assertEqual(caught.exception.value, value)

    def test_no_folder(self):
        self.refused(NoFolder, "new", at("new"))
        self.refused(NoFolder, "in/old", below("in/old"))
        self.refused(NoFolder, "i", below("i"))
        self.refused(NoFolder, "red", at("red"))

    def test_no_field(self):
        for name in ("blue", "size", "kind", "folder", "in"):
            self.refused(NoField, name, marked(name))
        for name in ("red", "kind", "other", "folder"):
            self.refused(NoField, name, least(name, 1))
            self.refused(NoField, name, most(name, 1))
        for name in ("red", "other", "folder", "note"):
            self.refused(NoField, name, filled(name))
        for name in ("red", "size", "other", "folder"):
            self.refused(NoField, name, said(name, "note"))

    def test_no_shelf(self):
        self.refused(NoShelf, "x", shelf("x"))
        self.refused(NoShelf, "x", shelf("x"), Kept(FIELDS))
        self.refused(NoShelf, "x", shelf("y") & "x", Kept(FIELDS, y=nothing()))

    def test_the_first_condition_that_does_not_fit_is_told(self):
        wrong = [
            (at("new"), NoFolder, "new"), (below("old"), NoFolder, "old"), (marked("blue"), NoField, "blue"),
            (least("age", 1), NoField, "age"), (most("tone", 1), NoField, "tone"), (filled("zzz"), NoField, "zzz"),
            (said("size", "x"), NoField, "size"), (shelf("x"), NoShelf, "x")]
        for (one, error, value), (other, _, _) in itertools.permutations(wrong, 2):
            for operator in OPERATORS.values():
                self.refused(error, value, operator(one, other))
                self.refused(error, value, everything() | ~operator(one, other) & at("in"))
                self.refused(error, value, at("in") & (marked("red") | one) | other, Kept(FIELDS, y=other))

    def test_it_has_to_fit_also_where_it_makes_no_difference(self):
        self.refused(NoFolder, "new", nothing() & at("new"))
        self.refused(NoField, "blue", everything() | marked("blue"))
        self.refused(NoShelf, "x", nothing() & "x")

    def test_only_its_own_conditions_are_gone_through(self):
        kept = Kept(FIELDS, x=shelf("y"), y=marked("red"))
        self.refused(NoField, "blue", shelf("x") & marked("blue"), kept)
        self.assertIs(shelf("x")(FIELDS.made("in", "red"), kept), True)

    def test_other_fields_come_ahead_of_what_does_not_fit(self):
        near = Fields(FIELDS.folders, marks=("red",), numbers=(("size", 2),), kinds=FIELDS.kinds)
        for search in (at("in"), at("new"), marked("blue"), shelf("x"), everything()):
            for fields in (WIDE, near):
                with self.assertRaises(OtherFields):
                    search(FIELDS.made("in"), Kept(fields, x=everything()))

    def test_shelves_of_equal_fields(self):
        same = Fields(FIELDS.folders, marks=FIELDS.marks, numbers=FIELDS.numbers, kinds=FIELDS.kinds)
        self.assertIs(shelf("x")(FIELDS.made("in"), Kept(same, x=at("in"))), True)

    def test_great_numbers_and_unknown_words_fit(self):
        item = FIELDS.made("in", size=3, kind="note")
        told = [search(item) for search in (least("size", 99), most("size", 99), said("kind", "zzz"), least("size", 4))]
        self.assertEqual(told, [False, True, False, False])
        self.assertIs(most("size", 99)(FIELDS.made("in")), False)


if __name__ == "__main__":
    unittest.main()

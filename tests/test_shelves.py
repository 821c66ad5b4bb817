"""Section 9: shelves."""

import itertools
import unittest

from helper import FIELDS, LARGEST, WIDE, Kept, all_items, any_values, repr_of, some_moves, some_searches
from wishshelves.errors import (
    BadName, BadRing, BadSearch, InUse, NoField, NoFolder, NoShelf, OtherFields, Taken, TooLong, TooMany)
from wishshelves.fields import Fields
from wishshelves.groups import Group
from wishshelves.moves import Move
from wishshelves.searches import (
    Search, at, below, everything, filled, least, marked, nothing, said, shelf)
from wishshelves.shelves import Shelves

SAME = Fields(FIELDS.folders, marks=FIELDS.marks, numbers=FIELDS.numbers, kinds=FIELDS.kinds)
NEAR = Fields(FIELDS.folders, marks=FIELDS.marks, numbers=(("size", 4),), kinds=FIELDS.kinds)
DIFFERENT_ERRORS = (
    (at("new"), NoFolder, "new"), (below("in/old"), NoFolder, "in/old"), (marked("blue"), NoField, "blue"),
    (least("kind", 1), NoField, "kind"), (filled("red"), NoField, "red"), (said("size", "a"), NoField, "size"),
    (shelf("zzz"), NoShelf, "zzz"))


def in_a_row(many, condition=at("in")):
    """Return a search of so many conditions."""
    search = condition
    for number in range(many - 1):
        search = search ^ condition
    return search


def naming(*names):
    """Return a search that names these shelves, in this sequence."""
    search = nothing()
    for name in names:
        search = search | name
    return search


def example():
    """Return the Shelves of the document's example."""
    shelves = Shelves(FIELDS)
    shelves["new"] = below("in") & ~marked("red")
    shelves["big"] = least("size", 2) & "new"
    return shelves


def told(shelves):
    """Return all that a Shelves keeps."""
    return repr((
        shelves.fields.names, shelves.names, shelves.move_names, [repr_of(shelves[name]) for name in shelves.names],
        [(repr_of(move.search), move.to, move.on, move.off, move.sets)
         for move in [shelves.move(name) for name in shelves.move_names]]))


class ShelvesCase(unittest.TestCase):
    def refused(self, error, values, shelves, call):
        """A call raises this error with these values, and changes nothing."""
        before, searches = told(shelves), dict(shelves.searches)
        with self.assertRaises(error) as caught:
            call()
        for name, value in values.items():
            self.assertEqual(repr(getattr(caught.exception, name)), repr(value))
        self.assertEqual(told(shelves), before)
        self.assertTrue(shelves.searches == searches)


class SettingTest(ShelvesCase):
    def set_refused(self, error, values, shelves, name, search):
        def call():
            shelves[name] = search
        self.refused(error, values, shelves, call)

    def test_the_examples_of_the_document(self):
        shelves = example()
        self.assertEqual([shelves.used_by("new"), shelves.group("big").many, shelves.group(shelf("new") - "big").many],
                         [(("shelf", "big"),), 12, 18])
        self.set_refused(BadRing, {"ring": ("big", "new")}, shelves, "new", at("in") | "big")

    def test_it_is_empty_at_first(self):
        shelves = Shelves(FIELDS)
        self.assertEqual((shelves.names, shelves.move_names, shelves.fields), ((), (), FIELDS))
        self.assertIs(Shelves(fields=WIDE).fields, WIDE)
        for name in ("names", "fields", "move_names"):
            self.assertIn(name, vars(shelves))

    def test_shelves_are_kept(self):
        shelves = Shelves(FIELDS)
        searches = {"zoo": at("in"), "ant": marked("red") | "zoo", "folder": ~shelf("zoo") & "ant", "in": nothing()}
        for name, search in searches.items():
            shelves[name] = search
        self.assertEqual(shelves.names, ("ant", "folder", "in", "zoo"))
        for name, search in searches.items():
            self.assertIs(shelves[name], search)
            self.assertIs(name in shelves, True)
        shelves["zoo"] = least("size", 1)
        self.assertEqual(shelves["zoo"], least("size", 1))
        self.assertEqual(shelves.group("ant"), FIELDS.group(marked("red") | least("size", 1)))

    def test_bad_name(self):
        shelves = example()
        for value in [*any_values(), "in/new", 0, "abcdefghi"]:
            self.set_refused(BadName, {"value": value}, shelves, value, at("in"))
            self.set_refused(BadName, {"value": value}, shelves, value, value)

    def test_bad_search(self):
        shelves = example()
        for value in [*any_values(), "new", 0, ("at", "in")]:
            if not isinstance(value, Search):
                for name in ("x", "new"):
                    self.set_refused(BadSearch, {"value": value}, shelves, name, value)

    def test_searches_that_do_not_fit(self):
        shelves = example()
        for (one, error, value), (other, *more) in itertools.permutations(DIFFERENT_ERRORS, 2):
            for name in ("new", "x"):
                self.set_refused(error, {"value": value}, shelves, name, one)
                self.set_refused(error, {"value": value}, shelves, name, at("in") & (one | other))
                self.set_refused(error, {"value": value}, shelves, name, ~(shelf("big") ^ one) - other)

    def test_the_shelf_itself_counts_as_there(self):
        shelves = example()
        self.set_refused(BadRing, {"ring": ("x",)}, shelves, "x", shelf("x"))
        self.set_refused(BadRing, {"ring": ("x",)}, shelves, "x", at("in") - "x")
        self.set_refused(NoShelf, {"value": "y"}, shelves, "x", shelf("x") & "y")
        self.set_refused(NoField, {"value": "blue"}, shelves, "x", shelf("x") & marked("blue"))

    def test_great_numbers_and_unknown_words_fit(self):
        shelves = Shelves(FIELDS)
        shelves["x"] = least("size", 99) | said("kind", "zzz")
        self.assertEqual(shelves.group("x"), FIELDS.nothing)

    def test_eight_shelves(self):
        shelves = Shelves(FIELDS)
        for name in "abcdefgh":
            shelves[name] = at("in")
        self.set_refused(TooMany, {"most": 8}, shelves, "i", at("in"))
        self.set_refused(NoFolder, {"value": "new"}, shelves, "i", at("new"))
        self.set_refused(TooMany, {"most": 8}, shelves, "i", shelf("i"))
        shelves["h"] = marked("red")
        self.assertEqual(len(shelves.names), 8)
        for name in "abc":
            shelves[name] = in_a_row(16)
        self.set_refused(TooMany, {"most": 8}, shelves, "i", in_a_row(16))
        self.set_refused(TooLong, {"most": 60}, shelves, "h", in_a_row(16))
        shelves.drop("a")
        shelves["i"] = at("in")
        self.assertEqual(shelves.names, tuple("bcdefghi"))

    def test_sixty_conditions(self):
        shelves = Shelves(FIELDS)
        for name in "abc":
            shelves[name] = in_a_row(16)
        shelves["d"] = in_a_row(12)
        self.set_refused(TooLong, {"most": 60}, shelves, "e", at("in"))
        self.set_refused(TooLong, {"most": 60}, shelves, "d", in_a_row(13))
        self.set_refused(TooLong, {"most": 60}, shelves, "d", shelf("d") & in_a_row(12))
        self.set_refused(NoField, {"value": "blue"}, shelves, "d", in_a_row(13, marked("blue")))
        shelves["d"] = in_a_row(12, marked("red"))
        shelves["a"] = in_a_row(15)
        shelves["e"] = everything()
        self.assertEqual(sum(shelves[name].many for name in shelves.names), 60)
        self.set_refused(TooLong, {"most": 60}, shelves, "f", at("in"))


class RingsTest(ShelvesCase):
    def ring(self, ring, searches, name, search):
        shelves = Shelves(FIELDS)
        for other, names in searches:
            shelves[other] = naming(*names)

        def call():
            shelves[name] = search
        self.refused(BadRing, {"ring": ring}, shelves, call)

    def test_rings_of_one_two_and_three_shelves(self):
        self.ring(("a",), [], "a", shelf("a"))
        self.ring(("a",), [("a", ())], "a", ~shelf("a") & at("in"))
        self.ring(("a", "b"), [("a", ()), ("b", ("a",))], "a", naming("b"))
        self.ring(("a", "b"), [("b", ()), ("a", ("b",))], "b", naming("a"))
        self.ring(("a", "b", "c"), [("a", ()), ("c", ("a",)), ("b", ("c",))], "a", naming("b"))
        self.ring(("a", "c", "b"), [("a", ()), ("b", ("a",)), ("c", ("b",))], "a", naming("c"))
        self.ring(tuple("ahgfedcb"), [("a", ()), *[(one, (other,)) for one, other in zip("bcdefgh", "abcdefg")]],
                  "a", naming("h"))

    def test_a_ring_begins_with_its_least_name_and_goes_to_what_is_named(self):
        self.ring(("big", "zoo", "new"), [("new", ()), ("big", ()), ("zoo", ("new",)), ("big", ("zoo",))],
                  "new", naming("big"))

    def test_of_several_rings_a_shortest_one_is_told(self):
        searches = [("z", ()), ("a", ("z",)), ("b", ("a",)), ("c", ("b",)), ("y", ("z",))]
        self.ring(("y", "z"), searches, "z", naming("c", "y"))
        self.ring(("z",), searches, "z", naming("c", "y", "z"))
        self.ring(("a", "z"), searches, "z", naming("c", "y", "a"))
        self.ring(("a", "z", "b"), searches, "z", naming("c", "b"))

    def test_of_the_shortest_ones_the_least(self):
        self.ring(("a", "m"), [("m", ()), ("z", ("m",)), ("a", ("m",)), ("b", ("m",))], "m", naming("z", "b", "a"))
        self.ring(("a", "m", "c"), [("m", ()), ("a", ("m",)), ("b", ("m",)), ("c", ("a", "b"))], "m", naming("c"))
        self.ring(("a", "b", "m"), [("m", ()), ("b", ("m",)), ("c", ("m",)), ("a", ("c", "b"))], "m", naming("a"))
        self.ring(("m", "p", "x"), [("m", ()), ("x", ("m",)), ("y", ("m",)), ("p", ("y", "x")), ("q", ("x",))],
                  "m", naming("q", "p"))

    def test_rings_held_against_all_rows_of_names(self):
        names = "abcde"
        pairs = [(one, other) for one in names for other in names if one < other]
        for number in range(0, 2 ** len(pairs), 7):
            links = {name: [] for name in names}
            for place, (one, other) in enumerate(pairs):
                if number >> place & 1:
                    links[other].append(one)
            for changed, named in (("a", "e"), ("a", "de"), ("b", "ce"), ("c", "bde"), ("e", "abcd")):
                self.one_ring(links, changed, named)

    def one_ring(self, links, changed, named):
        shelves = Shelves(FIELDS)
        for name, others in links.items():
            shelves[name] = naming(*others)
        links = {**links, changed: list(named)}
        rings = [ring for many in range(1, 6) for ring in itertools.permutations(links, many)
                 if all(other in links[one] for one, other in zip(ring, ring[1:] + ring[:1]))]
        told_ring = None
        try:
            shelves[changed] = naming(*named)
        except BadRing as error:
            told_ring = error.ring
        shortest = min(map(len, rings), default=0)
        self.assertEqual(told_ring, min([ring for ring in rings if len(ring) == shortest], default=None))

    def test_what_names_shelves_by_two_ways_is_no_ring(self):
        shelves = Shelves(FIELDS)
        shelves["a"] = at("in")
        shelves["b"] = naming("a")
        shelves["c"] = naming("a")
        shelves["d"] = naming("c", "b", "a")
        self.assertEqual(shelves.group("d"), shelves.group("a"))


class ReadingTest(ShelvesCase):
    def test_no_shelf(self):
        shelves = example()
        shelves.set_move("file", Move(at("in")))
        for value in [*any_values(), "x", "file", "ne", 0, ("new",), ["new"]]:
            self.assertIs(value in shelves, False)
            self.assertIs(value not in shelves, True)
            for call in (lambda: shelves[value], lambda: shelves.used_by(value), lambda: shelves.drop(value),
                         lambda: shelves.rename(value, "y"), lambda: shelves.rename(value, value),
                         lambda: shelves.rename(value, "new")):
                self.refused(NoShelf, {"value": value}, shelves, call)
            if isinstance(value, str):
                self.refused(NoShelf, {"value": value}, shelves, lambda: shelves.group(value))

    def test_shelves_cannot_be_iterated_over(self):
        for shelves in (example(), Shelves(FIELDS)):
            for call in (iter, list, tuple, sorted):
                self.assertRaises(TypeError, call, shelves)
            with self.assertRaises(TypeError):
                for one in shelves:
                    pass

    def test_group(self):
        shelves = example()
        for name in ("new", "big"):
            self.assertIsInstance(shelves.group(name), Group)
            self.assertTrue(shelves.group(name) == shelves.group(shelf(name)) == FIELDS.group(shelves[name], shelves))
        self.assertTrue(shelves.group(search="big") == FIELDS.group(below("in") & least("size", 2) - marked("red")))
        self.assertEqual(shelves.group(everything()), FIELDS.everything)
        for search, error, value in DIFFERENT_ERRORS:
            self.refused(error, {"value": value}, shelves, lambda: shelves.group(search))

    def test_searches_with_shelves(self):
        shelves = example()
        for search in some_searches(FIELDS, 80, 61, names=("new", "big")):
            here = [item.key for item in all_items(FIELDS) if search(item, shelves)]
            self.assertEqual([item.key for item in shelves.group(search).each()], here)
            self.assertEqual([item.key for item in FIELDS.group(search, shelves).each()], here)
        item = FIELDS.made("in", size=2)
        self.assertEqual([shelf("big")(item, shelves), shelf("big")(item=FIELDS.made("out"), shelves=shelves)],
                         [True, False])

    def test_searches_with_shelves_that_do_not_fit(self):
        shelves = example()
        for (one, error, value), (other, *more) in itertools.permutations(DIFFERENT_ERRORS, 2):
            search = shelf("big") | ~(one & "new") ^ other
            self.refused(error, {"value": value}, shelves, lambda: search(FIELDS.made("in"), shelves))
            self.refused(error, {"value": value}, shelves, lambda: FIELDS.group(search, shelves))
        for fields in (WIDE, NEAR):
            for search in (at("in"), at("zzz"), shelf("x"), marked("blue")):
                empty = Shelves(fields)
                self.refused(OtherFields, {}, empty, lambda: search(FIELDS.made("in"), empty))
                self.refused(OtherFields, {}, empty, lambda: FIELDS.group(search, empty))
        self.assertIs(at("in")(SAME.made("in"), shelves), True)

    def test_the_largest_fields(self):
        shelves = Shelves(LARGEST)
        shelves["a"] = below("a") ^ least("i", 50)
        for name, below_it in zip("bcdefgh", "abcdefg"):
            shelves[name] = shelf(below_it) ^ below_it ^ below_it & (everything() ^ marked("e") & nothing())
        self.assertEqual(sum(shelves[name].many for name in shelves.names), 44)
        self.assertEqual(shelves.group("h"), shelves.group("a"))
        self.assertEqual(shelves.group("h").many, LARGEST.many // 2)
        self.assertEqual(shelves.group(shelf("h") & said("l", "a") & most_of_j()).many, LARGEST.many // 2 // 5 // 101)


def most_of_j():
    """Return a search for what has the greatest number there is."""
    return least("j", 99)


class UsersTest(ShelvesCase):
    def kept(self):
        shelves = example()
        shelves["all"] = shelf("new") | "big"
        shelves.set_move("new", Move(shelf("big") & "all"))
        shelves.set_move("a", Move(~shelf("new"), to="out"))
        shelves.set_move("zoo", Move(at("in")))
        return shelves

    def test_used_by(self):
        shelves = self.kept()
        self.assertEqual(shelves.used_by("new"), (("move", "a"), ("shelf", "all"), ("shelf", "big")))
        self.assertEqual(shelves.used_by(name="big"), (("move", "new"), ("shelf", "all")))
        self.assertEqual(shelves.used_by("all"), (("move", "new"),))
        self.assertEqual(example().used_by("big"), ())

    def test_drop(self):
        shelves = self.kept()
        for name in shelves.names:
            self.refused(InUse, {"users": shelves.used_by(name)}, shelves, lambda: shelves.drop(name))
        shelves.drop_move("new")
        self.assertIsNone(shelves.drop("all"))
        self.assertEqual((shelves.names, "all" in shelves), (("big", "new"), False))
        self.assertEqual(shelves.used_by("big"), ())
        shelves.drop(name="big")
        self.refused(InUse, {"users": (("move", "a"),)}, shelves, lambda: shelves.drop("new"))
        shelves.drop_move("a")
        shelves.drop("new")
        self.assertEqual(shelves.names, ())
        self.refused(NoShelf, {"value": "new"}, shelves, lambda: shelves.drop("new"))

    def test_rename(self):
        shelves = self.kept()
        groups = [shelves.group(name) for name in ("all", "big", "new")]
        search = shelves["all"]
        self.assertIsNone(shelves.rename("new", "old"))
        self.assertEqual(shelves.names, ("all", "big", "old"))
        self.assertEqual(shelves["old"], below("in") & ~marked("red"))
        self.assertEqual(shelves["big"], least("size", 2) & "old")
        self.assertEqual(shelves["all"], shelf("old") | "big")
        self.assertEqual(shelves.move("a"), Move(~shelf("old"), to="out"))
        self.assertEqual(shelves.move("new"), Move(shelf("big") & "all"))
        self.assertEqual(shelves.move_names, ("a", "new", "zoo"))
        self.assertEqual([shelves.group(name) for name in ("all", "big", "old")], groups)
        self.assertEqual(search, shelf("new") | "big")
        self.refused(NoShelf, {"value": "new"}, shelves, lambda: shelves["new"])
        shelves.rename(old="big", new="new")
        self.assertEqual(shelves["all"], shelf("old") | "new")
        self.assertEqual(shelves["all"].shelves, ("new", "old"))
        self.assertEqual(shelves.used_by("new"), (("move", "new"), ("shelf", "all")))

    def test_rename_goes_everywhere_in_a_search(self):
        shelves = Shelves(FIELDS)
        shelves["a"] = at("in")
        shelves["b"] = ~(shelf("a") ^ ("a" & marked("red") | ~shelf("a"))) - (filled("size") & "a")
        shelves.set_move("a", Move("a" & ~(shelf("a") | "b"), on=("red",), sets=(("size", None), ("kind", "list"))))
        shelves.rename("a", "marked")
        self.assertEqual(shelves["b"], ~(shelf("marked") ^ ("marked" & marked("red") | ~shelf("marked"))) - (
            filled("size") & "marked"))
        self.assertEqual(shelves["b"].shelves, ("marked",))
        self.assertEqual(shelves.move("a"), Move(
            "marked" & ~(shelf("marked") | "b"), on=("red",), sets=(("size", None), ("kind", "list"))))

    def test_conditions_of_the_same_name_stay(self):
        fields = Fields(("red", "red/red"), marks=("red",), kinds=(("kind", ("red",)),))
        shelves = Shelves(fields)
        shelves["red"] = below("red") & marked("red") | said("kind", "red")
        shelves["x"] = shelf("red") & marked("red") & at("red") & said("kind", "red")
        shelves.rename("red", "blue")
        self.assertEqual(shelves["blue"], below("red") & marked("red") | said("kind", "red"))
        self.assertEqual(shelves["x"], shelf("blue") & marked("red") & at("red") & said("kind", "red"))

    def test_names_that_a_shelf_cannot_have(self):
        shelves = self.kept()
        for value in [*any_values(), 0, "in/new", ("x",), ["x"]]:
            self.refused(BadName, {"value": value}, shelves, lambda: shelves.rename("new", value))
        for value in shelves.names:
            for name in shelves.names:
                self.refused(Taken, {"value": value}, shelves, lambda: shelves.rename(name, value))
        shelves.rename("all", "zoo")
        self.assertEqual(shelves.names, ("big", "new", "zoo"))


class LaidOverTest(ShelvesCase):
    def laid(self, shelves, other):
        shelves |= other
        return shelves

    def test_shelves_and_moves_are_laid_over(self):
        shelves, other = example(), Shelves(FIELDS)
        shelves.set_move("file", Move(shelf("big"), to="out"))
        shelves.set_move("tag", Move(at("in"), on=("red",)))
        other["any"] = everything()
        other["new"] = at("in/new") & "any"
        other.set_move("tag", Move(shelf("new"), off=("red",)))
        other.set_move("any", Move(shelf("any")))
        same, there = shelves, told(other)
        shelves |= other
        self.assertIs(shelves, same)
        self.assertEqual((shelves.names, shelves.move_names), (("any", "big", "new"), ("any", "file", "tag")))
        self.assertEqual(shelves["new"], at("in/new") & "any")
        self.assertEqual(shelves["big"], least("size", 2) & "new")
        self.assertEqual(shelves.group("big"), FIELDS.group(least("size", 2) & at("in/new")))
        self.assertEqual(shelves.move("tag"), Move(shelf("new"), off=("red",)))
        self.assertEqual(shelves.move("file"), Move(shelf("big"), to="out"))
        self.assertEqual(told(other), there)
        shelves["x"] = at("in")
        shelves.drop_move("any")
        self.assertEqual(told(other), there)
        other["y"] = at("in")
        self.assertEqual(shelves.names, ("any", "big", "new", "x"))

    def test_one_that_names_turn_about(self):
        shelves, other = Shelves(FIELDS), Shelves(FIELDS)
        shelves["a"], other["b"] = at("in"), marked("red")
        shelves["b"], other["a"] = ~shelf("a"), ~shelf("b")
        shelves |= other
        self.assertTrue(shelves == other)

    def test_laid_over_itself_and_over_nothing(self):
        shelves, empty = example(), Shelves(FIELDS)
        before = told(shelves)
        self.assertEqual(told(self.laid(shelves, shelves)), before)
        self.assertEqual(told(self.laid(shelves, Shelves(SAME))), before)
        self.assertEqual(told(self.laid(empty, shelves)), before)

    def test_other_fields(self):
        shelves = example()
        for fields in (WIDE, NEAR, Fields(("in",))):
            self.refused(OtherFields, {}, shelves, lambda: self.laid(shelves, Shelves(fields)))
        full = Shelves(NEAR)
        for name in "abcdefgh":
            full[name] = in_a_row(7)
        self.refused(OtherFields, {}, shelves, lambda: self.laid(shelves, full))

    def test_too_many_and_too_long(self):
        one, other = Shelves(FIELDS), Shelves(FIELDS)
        for name in "abcde":
            one[name] = at("in")
            one.set_move(name, Move(at("in")))
        for name in "defghi":
            other[name] = in_a_row(10)
            other.set_move(name, Move(at("out")))
        self.refused(TooMany, {"most": 8}, one, lambda: self.laid(one, other))
        other.drop("i")
        self.refused(TooMany, {"most": 6}, one, lambda: self.laid(one, other))
        for name in "gh":
            other.drop_move(name)
        self.refused(TooMany, {"most": 6}, one, lambda: self.laid(one, other))
        other.drop_move("i")
        self.assertEqual(len(self.laid(one.copy(), other).names), 8)
        # 41 conditions of d to h lie over those of one: with a, b and c they are 60.
        other["h"] = nothing()
        one["a"], one["b"], one["d"] = in_a_row(9), in_a_row(9), in_a_row(16)
        self.assertEqual(sum(search.many for search in self.laid(one.copy(), other).searches.values()), 60)
        one["a"] = in_a_row(10)
        self.refused(TooLong, {"most": 60}, one, lambda: self.laid(one, other))
        one.set_move("z", Move(at("in")))
        self.refused(TooMany, {"most": 6}, one, lambda: self.laid(one, other))

    def test_nothing_else_can_be_laid_over(self):
        shelves = example()
        for value in (None, 1, {"a": at("in")}, FIELDS):
            self.assertRaises(TypeError, self.laid, shelves, value)


class EqualityTest(ShelvesCase):
    def test_equality(self):
        made = [lambda: Shelves(FIELDS), lambda: Shelves(NEAR), example]
        for change in (
                lambda shelves: shelves.drop("big"), lambda shelves: shelves.rename("big", "bag"),
                lambda shelves: shelves.set_move("a", Move(at("in"))),
                lambda shelves: shelves.set_move("b", Move(at("in"))),
                lambda shelves: shelves.set_move("a", Move(at("in"), to="out")),
                lambda shelves: shelves.__setitem__("big", least("size", 3) & "new"),
                lambda shelves: shelves.__setitem__("big", "new" & least("size", 2))):
            made.append(lambda change=change: changed(change))
        for (number, one), (other_number, other) in itertools.product(enumerate(made), repeat=2):
            self.assertIs(one() == other(), number == other_number)
            self.assertIs(one() != other(), number != other_number)
        for value in any_values():
            self.assertIs(example() == value, False)
            self.assertIs(value == example(), False)

    def test_the_sequence_of_setting_makes_no_difference(self):
        one, other = Shelves(FIELDS), Shelves(SAME)
        one["a"], one["b"] = at("in"), at("out")
        other["b"], other["a"] = nothing(), at("in")
        other["b"] = at("out")
        self.assertTrue(one == other)

    def test_copy(self):
        for number in range(5):
            shelves = some_moves(FIELDS, number)
            same = shelves.copy()
            before = told(shelves)
            self.assertIsInstance(same, Shelves)
            self.assertTrue(same == shelves)
            self.assertEqual(told(same), before)
            same["zzz"] = at("in")
            same.drop_move("am")
            same.set_move("be", Move(at("in")))
            same["one"] = nothing()
            self.assertEqual(told(shelves), before)
            other = shelves.copy()
            shelves["yyy"] = at("in")
            shelves.drop_move("do")
            self.assertEqual(told(other), before)

    def test_searches_and_moves_stay_as_they_are(self):
        search, move = at("in") & "a", Move(shelf("a") | "b", on=("red",))
        shelves = Shelves(FIELDS)
        shelves["a"] = at("out")
        shelves["b"] = search
        shelves.set_move("c", move)
        shelves.rename("a", "z")
        self.assertEqual((repr_of(search), search.shelves), (repr_of(at("in") & "a"), ("a",)))
        self.assertEqual((repr_of(move.search), move.on), (repr_of(shelf("a") | "b"), ("red",)))

    def test_the_stand_in_of_other_tests_is_read_as_shelves_are(self):
        shelves, kept = Shelves(FIELDS), Kept(FIELDS, x=at("in"))
        shelves["x"] = at("in")
        self.assertTrue(FIELDS.group(shelf("x"), kept) == FIELDS.group(shelf("x"), shelves))


def changed(change):
    """Return the Shelves of the example, changed."""
    shelves = example()
    change(shelves)
    return shelves


if __name__ == "__main__":
    unittest.main()

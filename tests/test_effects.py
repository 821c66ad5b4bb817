"""Section 14: what runs lay, and whether two lots of moves lead to the same."""

import itertools
import unittest

from helper import FIELDS, LARGEST, SMALL, WIDE, all_choices, any_values, some_moves
from test_ways import NEAR, Walk, counter, example, keys_of
from wishshelves.effects import alike_moves, effects
from wishshelves.errors import NoMove, OtherFields, TooMany
from wishshelves.fields import Fields
from wishshelves.groups import Group
from wishshelves.items import Item
from wishshelves.moves import Move
from wishshelves.searches import at, everything, filled, least, marked, most, nothing, said, shelf
from wishshelves.shelves import Shelves
from wishshelves.ways import can, reach

SAME = Fields(FIELDS.folders, marks=FIELDS.marks, numbers=FIELDS.numbers, kinds=FIELDS.kinds)


def plain_effects(shelves, names):
    """Return {pairs: set of keys} of all that some run lays, worked out item by item."""
    walk, order, found = Walk(shelves, names), shelves.fields.names, {}
    for start in walk.keys:
        met, ahead = {(start, ())}, [(start, ())]
        for key, laid in ahead:
            found.setdefault(laid, set()).add(start)
            for name, other in walk.goes[key]:
                values = {**dict(laid), **dict(shelves.laid(name))}
                state = (other, tuple((one, values[one]) for one in order if one in values))
                if state not in met:
                    met.add(state)
                    ahead.append(state)
    return found


def in_sequence(fields, laids):
    """Return what is laid in the sequence of items, what is not laid ahead of all values."""
    choices = dict(zip(fields.names, all_choices(fields)))

    def place(laid):
        values = dict(laid)
        return [choices[name].index(values[name]) if name in values else -1 for name in fields.names]
    return sorted(laids, key=place)


def lays(*names):
    """Return the Shelves of WIDE with moves that lay one value each, over all items."""
    shelves = Shelves(WIDE)
    moves = {
        "a": Move(everything(), to="a"), "b": Move(everything(), to="b"), "c": Move(everything(), on=("red",)),
        "d": Move(everything(), on=("blue",)), "e": Move(everything(), sets=(("size", 1),)),
        "f": Move(everything(), sets=(("kind", "zoo"),)), "g": Move(everything(), off=("red",))}
    for name in names:
        shelves.set_move(name, moves[name])
    return shelves


class ExamplesTest(unittest.TestCase):
    def test_the_examples_of_the_document(self):
        shelves = example()
        self.assertEqual(
            [(laid, group.many) for laid, group in effects(shelves)],
            [((), 90), ((("red", True),), 15), ((("folder", "out"),), 15), ((("folder", "out"), ("red", True)), 15)])
        other = shelves.copy()
        other.set_move("file", Move(at("in"), to="out"))
        self.assertEqual([one.key for one in alike_moves(shelves, other)],
                         [("in", False, None, None), ("out", False, None, None)])


class EffectsTest(unittest.TestCase):
    def test_held_against_a_plain_walk(self):
        counts = []
        for fields, seeds in ((FIELDS, [*range(12), 513]), (SMALL, range(25)), (WIDE, (2, 209))):
            for seed in seeds:
                shelves = some_moves(fields, seed, many=6 if seed % 3 or seed > 100 else 4)
                for only in (None, shelves.move_names[::-1][:3]):
                    plain = plain_effects(shelves, shelves.move_names if only is None else sorted(only))
                    counts.append(len(plain))
                    if len(plain) > 40:
                        self.assertRaises(TooMany, effects, shelves, only=only)
                        continue
                    found = effects(shelves, only=only)
                    self.assertEqual([laid for laid, group in found], in_sequence(fields, plain))
                    for laid, group in found:
                        self.assertEqual(keys_of(group), plain[laid])
        self.assertTrue(len(set(counts)) > 15 and 40 in counts and max(counts) > 40)

    def test_what_it_returns(self):
        found = effects(shelves=example(), only=None)
        self.assertIsInstance(found, tuple)
        for row in found:
            self.assertIsInstance(row, tuple)
            laid, group = row
            self.assertIsInstance(laid, tuple)
            self.assertIsInstance(group, Group)
            self.assertEqual(group.fields, FIELDS)
            self.assertTrue(group)
            for pair in laid:
                self.assertIsInstance(pair, tuple)
            # Each is such as item.laid takes.
            FIELDS.made("in").laid(laid)
        self.assertRaises(TypeError, effects, example(), None)

    def test_the_sequence_of_items(self):
        shelves = Shelves(WIDE)
        for name, move in zip("abcdef", (
                Move(at("a"), to="b"), Move(at("a"), to="a/b"), Move(at("a"), sets=(("kind", "ant"),)),
                Move(at("a/b"), off=("blue",)), Move(at("a/b"), on=("blue",)),
                Move(at("b") & said("kind", "ant"), sets=(("size", None), ("kind", "zoo"))))):
            shelves.set_move(name, move)
        ant, zoo = ("kind", "ant"), ("kind", "zoo")
        low, off, on = ("folder", "a/b"), ("blue", False), ("blue", True)
        self.assertEqual([laid for laid, group in effects(shelves)], [
            (), (ant,), (("size", None), zoo), (off,), (on,), (low,), (low, ant), (low, off), (low, off, ant),
            (low, on), (low, on, ant), (("folder", "b"),), (("folder", "b"), ant),
            (("folder", "b"), ("size", None), zoo)])

    def test_laid_where_the_item_had_the_value_ahead(self):
        shelves = Shelves(FIELDS)
        shelves.set_move("stay", Move(at("in"), to="in"))
        shelves.set_move("red", Move(marked("red"), on=("red",), sets=(("size", None),)))
        found = effects(shelves)
        self.assertEqual([(laid, group.many) for laid, group in found], [
            ((), 90), ((("red", True), ("size", None)), 45), ((("folder", "in"),), 30),
            ((("folder", "in"), ("red", True), ("size", None)), 15)])
        self.assertTrue(found[2][1] == FIELDS.group(at("in")))
        shelves.set_move("none", Move(everything()))
        self.assertEqual(effects(shelves), found)

    def test_the_last_value_of_a_field(self):
        shelves = Shelves(FIELDS)
        shelves.set_move("up", Move(at("in"), to="in/new", on=("red",)))
        shelves.set_move("out", Move(at("in/new") & marked("red"), to="out", off=("red",)))
        self.assertEqual([(laid, group == FIELDS.group(search)) for (laid, group), search in zip(
            effects(shelves), (everything(), at("in"), at("in") | at("in/new") & marked("red")))], [
                ((), True), ((("folder", "in/new"), ("red", True)), True), ((("folder", "out"), ("red", False)), True)])

    def test_without_moves(self):
        for shelves, only in ((Shelves(FIELDS), None), (Shelves(FIELDS), ()), (example(), ())):
            self.assertEqual(effects(shelves, only=only), (((), FIELDS.everything),))

    def test_a_move_of_no_item_lays_nothing(self):
        shelves = example()
        shelves.set_move("no", Move(nothing(), to="in/new"))
        self.assertEqual(effects(shelves), effects(example()))
        self.assertEqual(effects(shelves, only=("no",)), (((), FIELDS.everything),))

    def test_only_some_moves(self):
        shelves = example()
        self.assertEqual([laid for laid, group in effects(shelves, only=("file",))], [(), (("folder", "out"),)])
        self.assertEqual([laid for laid, group in effects(shelves, only=("tag",))], [(), (("red", True),)])
        self.assertEqual(effects(shelves, only=("tag", "file")), effects(shelves))

    def test_forty_and_forty_one(self):
        for seed, many in ((25, 40), (46, 40), (209, 41), (357, 41)):
            shelves = some_moves(WIDE, seed, many=6)
            self.assertEqual(len(plain_effects(shelves, shelves.move_names)), many)
            if many == 40:
                self.assertEqual(len(effects(shelves)), 40)
            else:
                with self.assertRaises(TooMany) as caught:
                    effects(shelves)
                self.assertEqual(caught.exception.most, 40)

    def test_many(self):
        self.assertEqual(len(effects(lays(*"cdef"))), 16)
        self.assertEqual(len(effects(lays(*"abcde"))), 24)
        self.assertEqual(len(effects(lays(*"acdef"))), 32)
        self.assertEqual(len(effects(lays(*"abcgd"))), 18)
        self.assertEqual(len(effects(lays(*"abcgde"))), 36)
        self.assertRaises(TooMany, effects, lays(*"abcdef"))
        self.assertEqual(len(effects(lays(*"abcdef"), only=tuple("fedcb"))), 32)

    def test_the_largest_fields(self):
        shelves = Shelves(LARGEST)
        shelves.set_move("up", Move(at("a") & least("i", 50), to="b", sets=(("j", 7),)))
        shelves.set_move("on", Move(at("b") & least("j", 7) & most("j", 8), to="c", on=("e",)))
        shelves.set_move("back", Move(marked("e") & at("c"), to="a", sets=(("i", None), ("l", "a"))))
        found = {laid: group for laid, group in effects(shelves)}
        self.assertEqual(len(found), 7)
        here = LARGEST.group(at("a") & least("i", 50))
        self.assertTrue(found[(("folder", "b"), ("j", 7))] == here)
        self.assertTrue(found[(("folder", "a"), ("e", True), ("i", None), ("j", 7), ("l", "a"))] == here)
        self.assertEqual(found[()].many, LARGEST.many)
        with self.assertRaises(TooMany):
            effects(counter())


class AlikeMovesTest(unittest.TestCase):
    def test_held_against_a_plain_walk(self):
        answers = []
        for fields, many in ((FIELDS, 5), (SMALL, 12)):
            lots = [some_moves(fields, seed, many=4) for seed in range(many)]
            for one, other in itertools.product(lots, repeat=2):
                for only in (None, one.move_names[1:3]):
                    answers.append(self.plain(one, other, only))
        self.assertIn(None, answers)
        self.assertGreater(len(set(map(repr, answers))), 10)

    def plain(self, one, other, only=None):
        """Hold alike_moves against what a plain walk tells, and return it."""
        names = [shelves.move_names if only is None else sorted(only) for shelves in (one, other)]
        try:
            value = alike_moves(one, other, only=only)
        except TooMany:
            counts = [len(plain_effects(shelves, some)) for shelves, some in zip((one, other), names)]
            self.assertGreater(max(counts), 40)
            return "many"
        walks = [Walk(shelves, some) for shelves, some in zip((one, other), names)]
        told = None
        for key in walks[0].keys:
            unlike = set(walks[0].runs_from(key)) ^ set(walks[1].runs_from(key))
            if unlike:
                told = (key, min(unlike, key=walks[0].keys.index))
                break
        self.assertEqual(None if value is None else tuple(item.key for item in value), told)
        return told

    def test_what_it_returns(self):
        other = example()
        other.drop_move("tag")
        value = alike_moves(one=example(), other=other, only=("file",))
        self.assertIsNone(value)
        self.assertIsNone(alike_moves(example(), Shelves(SAME), only=()))
        other.set_move("tag", Move(at("in/new"), on=("red",)))
        value = alike_moves(example(), other)
        self.assertIsInstance(value, tuple)
        self.assertIsInstance(value[0], Item)
        self.assertIsInstance(value[1], Item)
        self.assertEqual(value[1].fields, FIELDS)
        self.assertRaises(TypeError, alike_moves, example(), other, None)

    def test_alike(self):
        one, other = Shelves(FIELDS), Shelves(FIELDS)
        for one_move, other_move in (
                (Move(at("in"), to="in"), Move(nothing())), (Move(at("in"), to="out"), Move(at("in"), to="out", on=())),
                (Move(marked("red"), on=("red",)), Move(filled("size"))),
                (Move(at("in") & marked("red"), to="out", on=("red",)), Move(at("in") & marked("red"), to="out"))):
            one.set_move("go", one_move)
            other.set_move("go", other_move)
            self.assertIsNone(alike_moves(one, other))
            self.assertIsNone(alike_moves(other, one))

    def test_one_move_for_two(self):
        one, other = Shelves(FIELDS), Shelves(FIELDS)
        one.set_move("in", Move(at("in"), to="in/new"))
        one.set_move("new", Move(at("in/new"), to="out"))
        other.set_move("out", Move(at("in") | at("in/new"), to="out"))
        self.assertEqual([item.key for item in alike_moves(one, other)],
                         [("in", False, None, None), ("in/new", False, None, None)])
        other.set_move("far", Move(at("in"), to="in/new"))
        self.assertIsNone(alike_moves(one, other))

    def test_the_least_item_then_the_least_goal(self):
        one, other = Shelves(FIELDS), Shelves(FIELDS)
        one.set_move("a", Move(at("in/new"), to="in"))
        one.set_move("b", Move(least("size", 2) & at("in"), to="out"))
        self.assertEqual([item.key for item in alike_moves(one, other)],
                         [("in", False, 2, None), ("out", False, 2, None)])
        self.assertEqual([item.key for item in alike_moves(other, one)],
                         [("in", False, 2, None), ("out", False, 2, None)])
        other.set_move("b", Move(least("size", 2) & at("in"), to="out", sets=(("size", None),)))
        self.assertEqual([item.key for item in alike_moves(one, other)],
                         [("in", False, 2, None), ("out", False, None, None)])
        one.set_move("b", Move(nothing()))
        other.set_move("b", Move(nothing()))
        self.assertEqual([item.key for item in alike_moves(one, other)],
                         [("in/new", False, None, None), ("in", False, None, None)])

    def test_the_errors_in_their_sequence(self):
        many, few, wide = lays(*"abcdef"), lays(*"abc"), Shelves(FIELDS)
        for only in (None, (), ("x",), 1):
            for one, other in ((few, wide), (wide, many), (many, wide)):
                self.assertRaises(OtherFields, alike_moves, one, other, only=only)
        for one, other, only, value in (
                (few, many, ("a", "x"), "x"), (many, few, tuple("abcdef"), "d"), (few, many, tuple("abcdef"), "d"),
                (many, few, tuple("abcdeff"), "f"), (few, many, ("c", "c"), "c")):
            with self.assertRaises(NoMove) as caught:
                alike_moves(one, other, only=only)
            self.assertEqual(caught.exception.value, value)
        for one, other in ((few, many), (many, few), (many, many)):
            with self.assertRaises(TooMany) as caught:
                alike_moves(one, other)
            self.assertEqual(caught.exception.most, 40)
        self.assertIsNone(alike_moves(few, many, only=tuple("cab")))

    def test_the_largest_fields(self):
        one = Shelves(LARGEST)
        one.set_move("up", Move(at("a") & least("i", 50), to="b", sets=(("j", 7),)))
        one.set_move("on", Move(at("b") & least("j", 7) & most("j", 7), to="c", on=("e",)))
        other = one.copy()
        self.assertIsNone(alike_moves(one, other))
        other.set_move("on", Move(at("b") & least("j", 7) & most("j", 7) & (least("i", 1) | said("k", "c")),
                                  to="c", on=("e",)))
        item, goal = alike_moves(one, other)
        self.assertEqual((item.key, goal.key), (
            ("b", False, False, False, False, None, 7, None, None),
            ("c", True, False, False, False, None, 7, None, None)))
        for number in range(6):
            one, other = some_moves(LARGEST, number, many=4), some_moves(LARGEST, number + 1, many=4)
            try:
                value = alike_moves(one, other)
            except TooMany:
                continue
            if value is not None:
                start, goal = [exactly(LARGEST, item) for item in value]
                self.assertNotEqual(can(one, start, goal)[0], can(other, start, goal)[0])
            self.assertIsNone(alike_moves(one, one))


def exactly(fields, item):
    """Return the group of one item."""
    search = at(item.folder)
    for mark in fields.marks:
        search = search & marked(mark) if mark in item else search - marked(mark)
    for name, top in fields.numbers:
        number = item[name]
        search = search - filled(name) if number is None else search & least(name, number) & most(name, number)
    group = fields.group(search)
    for name, words in fields.kinds:
        group = group & fields.group(~filled(name) if item[name] is None else said(name, item[name]))
    return group


class WrongTest(unittest.TestCase):
    def test_no_move(self):
        for value, only in (
                [(value, value) for value in [*any_values(), "file", 0, ["file"]]
                 if value is not None and not isinstance(value, tuple)]
                + [(value, ("tag", value, "zzz")) for value in [*any_values(), "new", 0, ("file",)]]
                + [("tag", ("tag", "tag")), ("file", ("tag", "file", "file"))]):
            for call in (lambda: effects(example(), only=only), lambda: alike_moves(example(), example(), only=only)):
                with self.assertRaises(NoMove) as caught:
                    call()
                self.assertIs(caught.exception.value, value)

    def test_other_fields(self):
        for one, other in itertools.permutations([Shelves(FIELDS), Shelves(NEAR), Shelves(WIDE)], 2):
            self.assertRaises(OtherFields, alike_moves, one, other)
        self.assertIsNone(alike_moves(Shelves(FIELDS), Shelves(SAME)))

    def test_nothing_is_changed(self):
        one, other = example(), example()
        effects(one)
        alike_moves(one, other)
        self.assertTrue(one == other == example())

    def test_the_group_of_each_comes_where_it_is_laid(self):
        for seed in range(8):
            shelves = some_moves(FIELDS, seed)
            for laid, group in effects(shelves):
                for item in group.each():
                    start = exactly(FIELDS, item)
                    self.assertIn(item.laid(laid), reach(shelves, start))
                    break

    def test_shelves_of_moves(self):
        shelves = example()
        shelves["x"] = shelf("new") & least("size", 3)
        shelves.set_move("go", Move(shelf("x"), sets=(("size", 0),)))
        self.assertEqual([(laid, group.many) for laid, group in effects(shelves, only=("go",))],
                         [((), 90), ((("size", 0),), 6)])


if __name__ == "__main__":
    unittest.main()

"""Section 12: who can come where."""

import unittest

from helper import FIELDS, LARGEST, SMALL, WIDE, all_items, any_values, some_moves, some_searches
from wishshelves.errors import NoMove, OtherFields
from wishshelves.fields import Fields
from wishshelves.groups import Group
from wishshelves.items import Item
from wishshelves.moves import Move
from wishshelves.searches import (
    at, below, everything, filled, least, marked, most, nothing, said, shelf)
from wishshelves.shelves import Shelves
from wishshelves.ways import all_can, back, can, lasting, reach, shows_all_can, shows_can

NEAR = Fields(FIELDS.folders, marks=FIELDS.marks, numbers=(("size", 4),), kinds=FIELDS.kinds)


class Walk:
    """A plain walk over all items: goes tells for the key of each item where each move leads."""

    def __init__(self, shelves, names):
        self.keys = [item.key for item in all_items(shelves.fields)]
        self.goes = {}
        for item in all_items(shelves.fields):
            self.goes[item.key] = [
                (name, shelves.moved(name, item).key) for name in names if shelves.move(name).search(item, shelves)]
        self.next = {key: {other for name, other in goes} for key, goes in self.goes.items()}

    def runs_from(self, key):
        """Return the least names of the shortest runs to each item that is come to, shortest and least runs first."""
        runs, ahead = {key: ()}, [key]
        for one in ahead:
            for name, other in self.goes[one]:
                if other not in runs:
                    runs[other] = runs[one] + (name,)
                    ahead.append(other)
        return runs

    def can(self, start, goal):
        """Return (names, key) of a shortest run, of these the least, then that of the least item; None if none is."""
        found = []
        for key in self.keys:
            if key in start:
                found += [(len(names), names, self.keys.index(key))
                          for other, names in self.runs_from(key).items() if other in goal]
        return min(((names, self.keys[number]) for many, names, number in sorted(found)[:1]), default=None)

    def layers(self, start, goal):
        """Return goal, what comes into it by one more move and so on, until all of start is met, or nothing is left."""
        layers, met = [set(goal)], set(goal)
        while layers[-1] and not start <= met:
            layers.append({key for key in self.keys if key not in met and self.next[key] & layers[-1]})
            met |= layers[-1]
        return layers


def keys_of(group):
    """Return the set of the keys of a group."""
    return {item.key for item in group.each()}


def example():
    """Return the Shelves of the document's example."""
    shelves = Shelves(FIELDS)
    shelves["new"] = below("in") & ~marked("red")
    shelves["big"] = least("size", 2) & "new"
    shelves.set_move("file", Move(at("in") & marked("red"), to="out"))
    shelves.set_move("tag", Move(shelf("new") & at("in"), on=("red",)))
    return shelves


def counter():
    """Return a Shelves of the largest fields whose six moves count: each sets one of six, and takes all ahead of it."""
    shelves = Shelves(LARGEST)
    ones = [marked("e"), marked("f"), marked("g"), marked("h"), least("i", 50), filled("k")]
    for number, one in enumerate(ones):
        search = ~one
        for other in ones[:number]:
            search = search & other
        sets = [("i", 99 if number == 4 else 0)] if number > 3 else []
        sets += [("k", "b")] if number > 4 else []
        shelves.set_move("sixmov"[number], Move(
            search, on=LARGEST.marks[number:number + 1], off=LARGEST.marks[:number], sets=tuple(sets)))
    shelves["low"] = ~ones[0] - ones[1] - ones[2] - ones[3] - ones[4] - ones[5]
    shelves["high"] = ones[0] & ones[1] & ones[2] & ones[3] & ones[4] & ones[5]
    return shelves


class ExamplesTest(unittest.TestCase):
    def test_the_examples_of_the_document(self):
        shelves = example()
        out, low = FIELDS.group(at("out")), FIELDS.group(at("in/new"))
        self.assertEqual(
            [can(shelves, shelves.group("new"), out)[1].key, can(shelves, shelves.group("new"), out)[2],
             can(shelves, low, out) == ("never", low)],
            [("in", False, None, None), ("tag", "file"), True])
        self.assertEqual(
            [[one.many for one in all_can(shelves, FIELDS.group(at("in")), out)[1]], lasting(shelves, ~out).many,
             reach(shelves, low) == low],
            [[30, 15, 15], 30, True])


class WalkTest(unittest.TestCase):
    """reach, back, lasting, can and all_can held against a plain walk over all items."""

    def ways(self):
        for fields, many in ((FIELDS, 6), (SMALL, 24)):
            for number in range(many):
                shelves = some_moves(fields, number, many=4 if number % 2 else 6)
                for only in (None, shelves.move_names[::-1][:3], ()):
                    walk = Walk(shelves, shelves.move_names if only is None else sorted(only))
                    groups = [fields.group(search) for search in some_searches(fields, 3, number + 7)]
                    yield shelves, only, walk, [*groups, fields.nothing, fields.everything]

    def test_reach_back_and_lasting(self):
        for shelves, only, walk, groups in self.ways():
            runs = {key: walk.runs_from(key) for key in walk.keys}
            for group in groups:
                here = keys_of(group)
                self.assertEqual(keys_of(reach(shelves, group, only=only)),
                                 {other for key in here for other in runs[key]})
                self.assertEqual(keys_of(back(shelves, group, only=only)),
                                 {key for key in walk.keys if any(other in here for other in runs[key])})
                self.assertEqual(keys_of(lasting(shelves, group, only=only)),
                                 {key for key in here if all(other in here for other in runs[key])})

    def test_can(self):
        for shelves, only, walk, groups in self.ways():
            for a in groups:
                for b in groups:
                    value = can(shelves, a, b, only=only)
                    told = walk.can(keys_of(a), keys_of(b))
                    if told is None:
                        self.assertEqual((value[0], len(value)), ("never", 2))
                        self.assertTrue(value[1] == reach(shelves, a, only=only))
                    else:
                        self.assertEqual((value[0], value[1].key, value[2]), ("run", told[1], told[0]))
                    self.assertIs(shows_can(shelves, a, b, value, only=only), True)

    def test_all_can(self):
        for shelves, only, walk, groups in self.ways():
            for a in groups:
                for b in groups:
                    value = all_can(shelves, a, b, only=only)
                    layers = walk.layers(keys_of(a), keys_of(b))
                    lost = [key for key in walk.keys if key in keys_of(a) and not any(key in one for one in layers)]
                    if lost:
                        self.assertEqual((value[0], value[1].key, len(value)), ("not", lost[0], 3))
                        self.assertEqual(keys_of(value[2]), set(walk.runs_from(lost[0])))
                    else:
                        self.assertEqual((value[0], len(value)), ("all", 2))
                        self.assertEqual([keys_of(one) for one in value[1]], layers)
                    self.assertIs(shows_all_can(shelves, a, b, value, only=only), True)


class ReachTest(unittest.TestCase):
    def test_what_they_return(self):
        shelves, group = example(), FIELDS.group(at("in"))
        for call in (reach, back, lasting):
            self.assertIsInstance(call(shelves, group), Group)
            self.assertEqual(call(shelves, group).fields, FIELDS)
            self.assertEqual(call(shelves=shelves, group=group, only=None), call(shelves, group))
            self.assertRaises(TypeError, call, shelves, group, None)
        self.assertEqual(reach(shelves, group), FIELDS.group(at("in") | at("out") & marked("red")))
        self.assertEqual(back(shelves, FIELDS.group(at("out"))), FIELDS.group(~at("in/new")))
        self.assertEqual(lasting(shelves, group), FIELDS.nothing)

    def test_without_moves(self):
        for shelves, only in ((Shelves(FIELDS), None), (Shelves(FIELDS), ()), (example(), ())):
            for search in (at("in"), nothing(), everything(), marked("red") ^ least("size", 2)):
                group = FIELDS.group(search)
                for call in (reach, back, lasting):
                    self.assertEqual(call(shelves, group, only=only), group)

    def test_only_some_moves(self):
        shelves, group = example(), FIELDS.group(at("in") - marked("red"))
        self.assertEqual(reach(shelves, group, only=("file",)), group)
        self.assertEqual(reach(shelves, group, only=("tag",)), FIELDS.group(at("in")))
        self.assertEqual(reach(shelves, group, only=("tag", "file")), reach(shelves, group))
        self.assertEqual(reach(shelves, group, only=("file", "tag")), reach(shelves, group))
        self.assertEqual(lasting(shelves, FIELDS.group(at("in")), only=("tag",)), FIELDS.group(at("in")))
        self.assertEqual(back(shelves, FIELDS.group(at("out")), only=("tag",)), FIELDS.group(at("out")))


class CanTest(unittest.TestCase):
    def test_what_it_returns(self):
        shelves = example()
        value = can(shelves=shelves, a=FIELDS.group(at("in")), b=FIELDS.group(at("out")), only=None)
        self.assertIsInstance(value, tuple)
        self.assertIsInstance(value[1], Item)
        self.assertEqual((value[0], value[1].key, value[2]), ("run", ("in", True, None, None), ("file",)))
        self.assertRaises(TypeError, can, shelves, FIELDS.everything, FIELDS.everything, None)
        self.assertRaises(TypeError, all_can, shelves, FIELDS.everything, FIELDS.everything, None)

    def test_runs_without_names(self):
        shelves = example()
        for a, b, key in (
                (everything(), everything(), ("in", False, None, None)),
                (at("in") | at("out"), filled("size") & (at("out") | at("in/new")), ("out", False, 0, None)),
                (marked("red"), least("size", 3) & marked("red"), ("in", True, 3, None))):
            value = can(shelves, FIELDS.group(a), FIELDS.group(b))
            self.assertEqual((value[0], value[1].key, value[2]), ("run", key, ()))
            value = can(shelves, FIELDS.group(a), FIELDS.group(b), only=())
            self.assertEqual((value[0], value[1].key, value[2]), ("run", key, ()))

    def test_a_goal_that_is_never_come_to(self):
        shelves = example()
        for a, b, group in (
                (at("out"), at("in"), at("out")), (at("in"), at("in/new"), at("in") | at("out") & marked("red")),
                (at("in"), nothing(), at("in") | at("out") & marked("red")), (nothing(), everything(), nothing()),
                (nothing(), nothing(), nothing())):
            value = can(shelves, FIELDS.group(a), FIELDS.group(b))
            self.assertEqual((value[0], value[1] == FIELDS.group(group), len(value)), ("never", True, 2))

    def test_of_the_shortest_runs_the_least_names_then_the_least_item(self):
        shelves = Shelves(FIELDS)
        shelves.set_move("b", Move(at("in") & least("size", 2), to="out"))
        shelves.set_move("c", Move(at("in"), to="out"))
        value = can(shelves, FIELDS.group(at("in")), FIELDS.group(at("out")))
        self.assertEqual((value[1].key, value[2]), (("in", False, 2, None), ("b",)))
        shelves.set_move("a", Move(at("in"), on=("red",)))
        shelves.set_move("d", Move(at("in/new") & marked("red"), to="in"))
        value = can(shelves, FIELDS.group(below("in/new")), FIELDS.group(at("out")))
        self.assertEqual((value[1].key, value[2]), (("in/new", True, 2, None), ("d", "b")))
        value = can(shelves, FIELDS.group(below("in") - marked("red")), FIELDS.group(at("out") & marked("red")))
        self.assertEqual((value[1].key, value[2]), (("in", False, 2, None), ("a", "b")))
        value = can(shelves, FIELDS.group(below("in") - marked("red")), FIELDS.group(at("out") & marked("red")),
                    only=("c", "a"))
        self.assertEqual((value[1].key, value[2]), (("in", False, None, None), ("a", "c")))

    def test_names_that_lead_on_from_one_item_alone(self):
        shelves = Shelves(FIELDS)
        shelves.set_move("a", Move(at("in") & said("kind", "note"), on=("red",)))
        shelves.set_move("b", Move(at("in") & said("kind", "list"), on=("red",)))
        shelves.set_move("c", Move(marked("red") & said("kind", "list"), to="out"))
        value = can(shelves, FIELDS.group(at("in") - marked("red")), FIELDS.group(at("out")))
        self.assertEqual((value[1].key, value[2]), (("in", False, None, "list"), ("b", "c")))

    def test_long_runs_of_the_largest_fields(self):
        shelves = counter()
        start = shelves.group(shelf("low") & at("b") & most("j", 40))
        goal = shelves.group(shelf("high"))
        names = ""
        for name in "sixmov":
            names = names + name + names
        value = can(shelves, start, goal)
        self.assertEqual((value[0], value[1].key, value[2]), (
            "run", ("b", False, False, False, False, None, 0, None, None), tuple(names)))
        self.assertIs(shows_can(shelves, start, goal, value), True)
        self.assertIs(shows_can(shelves, start, goal, (*value[:2], value[2][:-1])), False)
        self.assertEqual(can(shelves, goal, start), ("never", goal))
        self.assertEqual(can(shelves, start, goal, only=tuple("sixmo")),
                         ("never", reach(shelves, start, only=tuple("sixmo"))))
        value = all_can(shelves, start, goal)
        self.assertEqual((value[0], len(value[1]), value[1][0] == goal), ("all", 64, True))
        self.assertTrue(value[1][-1] >= start)
        self.assertIs(shows_all_can(shelves, start, goal, value), True)
        # 16 lots of marks, i and k as they were, or (99, None), (0, 'b'), (99, 'b'); j and l as they were.
        self.assertEqual(reach(shelves, start).many, 16 * (51 + 3) * 41 * 5)
        self.assertEqual(back(shelves, goal), LARGEST.everything)
        self.assertEqual(lasting(shelves, ~goal), LARGEST.nothing)


class AllCanTest(unittest.TestCase):
    def test_all(self):
        shelves = example()
        out, come = FIELDS.group(at("out")), FIELDS.group(at("in") & marked("red"))
        for a, groups in (
                (at("in"), (out, come, FIELDS.group(at("in") - marked("red")))),
                (at("in") & marked("red"), (out, come)), (at("out") & least("size", 2), (out,)), (nothing(), (out,)),
                (at("in") & marked("red") | at("out"), (out, come))):
            value = all_can(shelves, FIELDS.group(a), out)
            self.assertEqual((value[0], len(value)), ("all", 2))
            self.assertIsInstance(value[1], tuple)
            self.assertEqual([one == other for one, other in zip(value[1], groups)], [True] * len(groups))
            self.assertEqual(len(value[1]), len(groups))
        self.assertEqual(all_can(shelves, FIELDS.nothing, FIELDS.nothing), ("all", (FIELDS.nothing,)))

    def test_not(self):
        shelves = example()
        for a, b, key, group in (
                (everything(), at("out"), ("in/new", False, None, None), None),
                (below("in"), at("out"), ("in/new", False, None, None), None),
                (at("in"), nothing(), ("in", False, None, None),
                 (at("in") | at("out") & marked("red")) - filled("size") - filled("kind")),
                (at("out") & least("size", 2), at("in"), ("out", False, 2, None), None)):
            value = all_can(shelves=shelves, a=FIELDS.group(a), b=FIELDS.group(b), only=None)
            self.assertEqual((value[0], value[1].key, len(value)), ("not", key, 3))
            self.assertEqual(keys_of(value[2]), {key} if group is None else keys_of(FIELDS.group(group)))

    def test_only_some_moves(self):
        shelves, come, out = example(), FIELDS.group(at("in") & marked("red")), FIELDS.group(at("out"))
        self.assertEqual(all_can(shelves, come, out, only=("file",)), ("all", (out, come)))
        value = all_can(shelves, come, out, only=("tag",))
        self.assertEqual((value[0], value[1].key, value[2].many), ("not", ("in", True, None, None), 1))


class OnlyTest(unittest.TestCase):
    def calls(self, shelves, a, b, only):
        """Return calls of all functions that take only."""
        return [
            lambda: reach(shelves, a, only=only), lambda: back(shelves, a, only=only),
            lambda: lasting(shelves, a, only=only), lambda: can(shelves, a, b, only=only),
            lambda: all_can(shelves, a, b, only=only), lambda: shows_can(shelves, a, b, None, only=only),
            lambda: shows_all_can(shelves, a, b, ("all", (b,)), only=only)]

    def refused(self, value, only, shelves=None):
        shelves = shelves or example()
        for a, b in ((FIELDS.everything, FIELDS.nothing), (WIDE.everything, FIELDS.nothing), (NEAR.everything,) * 2):
            for call in self.calls(shelves, a, b, only):
                with self.assertRaises(NoMove) as caught:
                    call()
                self.assertIs(caught.exception.value, value)

    def test_values_that_are_no_tuple(self):
        for value in [*any_values(), "file", 0, ["file"], {"file": 1}]:
            if value is not None and not isinstance(value, tuple):
                self.refused(value, value)

    def test_members_that_are_no_move(self):
        for value in [*any_values(), "new", "big", "x", 0, ("file",), ["file"]]:
            self.refused(value, (value,))
            self.refused(value, ("tag", value, "file", "zzz"))

    def test_moves_named_twice(self):
        self.refused("tag", ("tag", "tag"))
        self.refused("file", ("tag", "file", "file"))
        self.refused("tag", ("tag", "file", "tag"))
        self.refused("zzz", ("file", "zzz", "tag", "tag"))
        self.refused("tag", ("file", "tag", "tag", "zzz"))

    def test_other_fields_behind_no_move(self):
        shelves = example()
        for a, b in ((WIDE.everything, FIELDS.everything), (FIELDS.everything, NEAR.nothing), (NEAR.nothing,) * 2):
            for only in (None, (), ("file",)):
                calls = self.calls(shelves, a, b, only)
                for call in calls[3:] if a.fields == FIELDS else calls:
                    self.assertRaises(OtherFields, call)

    def test_a_shelf_of_the_name_of_a_move(self):
        shelves = example()
        shelves["file"] = at("in")
        shelves.set_move("new", Move(shelf("file"), to="out"))
        self.assertEqual(can(shelves, shelves.group("file"), FIELDS.group(at("out")), only=("new",))[2], ("new",))
        self.assertEqual(can(shelves, shelves.group("new"), FIELDS.group(at("out")), only=("file", "tag"))[2],
                         ("tag", "file"))

    def test_nothing_is_changed(self):
        shelves, a, b = example(), FIELDS.group(at("in")), FIELDS.group(at("out"))
        for only in (None, ("tag",), ()):
            for call in self.calls(shelves, a, b, only):
                call()
        self.assertTrue(shelves == example() and a == FIELDS.group(at("in")) and b == FIELDS.group(at("out")))


if __name__ == "__main__":
    unittest.main()

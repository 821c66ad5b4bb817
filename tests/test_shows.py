"""Section 12: shows_can and shows_all_can, of any value (section 2)."""

import itertools
import random
import unittest

from helper import FIELDS, LARGEST, SMALL, WIDE, any_values, some_moves, some_searches
from test_ways import NEAR, Walk, example, keys_of
from wishshelves.groups import Group
from wishshelves.items import Item
from wishshelves.moves import Move
from wishshelves.searches import at, below, everything, least, marked, nothing, said, shelf
from wishshelves.shelves import Shelves
from wishshelves.ways import all_can, back, can, reach, shows_all_can, shows_can

# Equal to FIELDS, but another object.
SAME = type(FIELDS)(FIELDS.folders, marks=FIELDS.marks, numbers=FIELDS.numbers, kinds=FIELDS.kinds)


def group(search):
    """Return the group of a search with the shelves of the example."""
    return example().group(search)


class ShowsCanTest(unittest.TestCase):
    def shows(self, a, b, value, only=None):
        found = shows_can(example(), group(a), group(b), value, only=only)
        self.assertIsInstance(found, bool)
        return found

    def test_any_value(self):
        for value in [*any_values(), "run", "never", ("run",), ("never",), (), ("run", None), ("never", None),
                      ("run", None, ()), ("never", None, ())]:
            self.assertIs(self.shows(everything(), everything(), value), False)
            self.assertIs(self.shows(nothing(), nothing(), value), False)
            self.assertIs(self.shows(at("in"), at("out"), ("run", value, ("file",))), False)
            self.assertIs(self.shows(at("in"), at("out"), ("run", FIELDS.made("in", "red"), value)), False)
            self.assertIs(self.shows(at("in"), at("out"), ("run", FIELDS.made("in", "red"), (value,))), False)
            self.assertIs(self.shows(at("in"), at("out"), ("run", FIELDS.made("in", "red"), ("file", value))), False)
            self.assertIs(self.shows(at("in"), at("out"), (value, FIELDS.made("in", "red"), ("file",))), value == "run")
            self.assertIs(self.shows(at("out"), at("in"), (value, group(at("out")))), value == "never")
        for value in any_values():
            right = isinstance(value, Group) and value == FIELDS.nothing
            self.assertIs(self.shows(nothing(), everything(), ("never", value)), right)

    def test_runs(self):
        item, other = FIELDS.made("in", size=1), FIELDS.made("in", "red", size=1)
        for a, b, value, right in (
                (at("in"), at("out"), ("run", item, ("tag", "file")), True),
                (at("in"), at("out"), ("run", other, ("file",)), True),
                (at("in"), marked("red"), ("run", item, ("tag",)), True),
                (at("in"), marked("red"), ("run", item, ("tag", "file")), True),
                (at("in"), marked("red"), ("run", other, ()), True),
                (at("in"), everything(), ("run", item, ()), True),
                (at("in"), at("out"), ["run", item, ("tag", "file")], False),
                (at("in"), at("out"), ("run", item, ["tag", "file"]), False),
                (at("in"), at("out"), ("run", item, "file"), False),
                (at("in"), at("out"), ("never", item, ("tag", "file")), False),
                (at("in"), at("out"), ("run", item, ("tag", "file"), ()), False),
                (at("in"), at("out"), ("run", item), False),
                (at("in"), at("out"), ("run", item.key, ("tag", "file")), False),
                (at("in"), at("out"), ("run", item, ("file", "tag")), False),
                (at("in"), at("out"), ("run", item, ("file",)), False),
                (at("in"), at("out"), ("run", item, ("tag",)), False),
                (at("in"), at("out"), ("run", item, ()), False),
                (at("in"), at("out"), ("run", item, ("tag", "file", "file")), False),
                (at("in"), at("out"), ("run", item, ("tag", "file", "zzz")), False),
                (at("in"), at("out"), ("run", item, ("tag", "new")), False),
                (at("in") & marked("red"), at("out"), ("run", item, ("tag", "file")), False),
                (at("out"), at("out"), ("run", item, ("tag", "file")), False)):
            self.assertIs(self.shows(a, b, value), right, value)

    def test_items_of_other_fields(self):
        for item, right in ((FIELDS.made("in"), True), (SAME.made("in"), True), (NEAR.made("in"), False),
                            (WIDE.made("a"), False)):
            self.assertIs(self.shows(at("in"), at("out"), ("run", item, ("tag", "file"))), right)

    def test_runs_that_are_longer_than_needed(self):
        shelves = Shelves(FIELDS)
        shelves.set_move("on", Move(everything(), on=("red",)))
        shelves.set_move("off", Move(marked("red"), off=("red",)))
        a, b = shelves.group(~marked("red")), shelves.group(marked("red"))
        for many in (0, 1, 7, 500):
            for names, right in ((("on", "off") * many + ("on",), True), (("on", "off") * many, False),
                                 (("off", "on") * (many + 1), False),
                                 (("on", "on", "off") * many + ("on", "on"), True)):
                value = ("run", FIELDS.made("out"), names)
                self.assertIs(shows_can(shelves, a, b, value), right)

    def test_groups_that_nobody_leaves(self):
        for a, b, found, right in (
                (at("out"), at("in"), at("out"), True), (at("out"), at("in"), ~at("in"), True),
                (at("out"), nothing(), everything(), True), (nothing(), everything(), nothing(), True),
                (at("out") & marked("red"), at("in"), at("out"), True),
                (at("out"), at("in"), at("out") & marked("red"), False), (at("out"), at("in"), nothing(), False),
                (at("out"), at("in"), everything(), False), (at("out"), at("in"), ~at("in/new"), False),
                (at("in"), at("in/new"), ~at("in/new"), True), (at("in"), at("in/new"), at("in"), False),
                (at("in"), at("in/new"), at("in") | at("out") & marked("red"), True),
                (at("in"), at("in/new"), at("in") | at("out") & least("size", 0), False),
                (at("in"), at("out"), at("in"), False), (at("in"), at("out"), below("in"), False)):
            self.assertIs(self.shows(a, b, ("never", group(found))), right)
            self.assertIs(self.shows(a, b, ["never", group(found)]), False)
            self.assertIs(self.shows(a, b, ("run", group(found))), False)
            self.assertIs(self.shows(a, b, ("not", group(found))), False)
            self.assertIs(self.shows(a, b, ("never", group(found), ())), False)
            self.assertIs(self.shows(a, b, ("never", SAME.group(found, example()))), right)
        for fields in (NEAR, WIDE):
            self.assertIs(self.shows(nothing(), nothing(), ("never", fields.nothing)), False)
            self.assertIs(self.shows(nothing(), nothing(), ("never", fields.everything)), False)

    def test_only_some_moves(self):
        item = FIELDS.made("in")
        run = ("run", item, ("tag", "file"))
        for only, right in ((None, True), (("tag", "file"), True), (("file", "tag"), True), (("tag",), False),
                            (("file",), False), ((), False)):
            self.assertIs(self.shows(at("in"), at("out"), run, only), right)
        for only, right in ((None, False), (("file", "tag"), False), (("file",), False), (("tag",), True), ((), True)):
            self.assertIs(self.shows(at("in"), at("out"), ("never", group(at("in"))), only), right)


class ShowsAllCanTest(unittest.TestCase):
    def shows(self, a, b, value, only=None):
        found = shows_all_can(example(), group(a), group(b), value, only=only)
        self.assertIsInstance(found, bool)
        return found

    def test_any_value(self):
        item = FIELDS.made("out")
        for value in [*any_values(), "all", "not", ("all",), ("not",), (), ("all", None), ("all", ()), ("not", None),
                      ("not", None, None)]:
            self.assertIs(self.shows(everything(), everything(), value), False)
            self.assertIs(self.shows(nothing(), nothing(), value), False)
            self.assertIs(self.shows(nothing(), nothing(), ("all", value)), False)
            self.assertIs(self.shows(at("out"), at("in"), ("not", value, group(at("out")))), False)
            self.assertIs(self.shows(at("out"), at("in"), (value, item, group(at("out")))), value == "not")
            self.assertIs(self.shows(at("in"), at("in"), (value, (group(at("in")),))), value == "all")
        for value in any_values():
            plain = isinstance(value, Group) and value.fields == FIELDS
            self.assertIs(self.shows(nothing(), nothing(), ("all", (value,))), plain and value == FIELDS.nothing)
            self.assertIs(self.shows(at("out"), at("out"), ("all", (group(at("out")), value))),
                          plain and value == FIELDS.nothing)
            # Each item can leave nothing, and none leaves everything.
            self.assertIs(self.shows(at("out"), nothing(), ("not", item, value)), plain and value == FIELDS.everything)

    def test_all(self):
        out, come, far = at("out"), at("in") & marked("red"), at("in") - marked("red")
        big = least("size", 1)
        for a, groups, right in (
                (at("in"), (out, come, far), True), (at("in"), (out, come | far), False),
                (at("in"), (out, come, far, far), True), (at("in"), (out, out, come, come, far), True),
                (at("in"), (out, come, at("in") | out), True), (at("in"), (out, come, everything()), False),
                (at("in"), (out, far, come), False), (at("in"), (out, come), False), (come, (out, come), True),
                (at("in"), (out & marked("red"), come, far), True), (at("in"), (out - marked("red"), come, far), False),
                (out, (out & marked("red"), out), False), (out & marked("red"), (out & marked("red"), nothing()), True),
                (at("in"), (out | come, far), False), (at("in"), (nothing(), out, come, far), False),
                (at("in"), (nothing(), come, far), False), (nothing(), (nothing(),), True), (nothing(), (out,), True),
                (nothing(), (at("in"),), False), (at("in"), (), False), (nothing(), (), False),
                (at("in") & big, (out & big, come & big, far & big), True),
                (at("in"), (out & big, come & big, far & big), False), (at("in"), (out & big, come, far), False)):
            told = tuple(group(one) for one in groups)
            self.assertIs(self.shows(a, out, ("all", told)), right)
            self.assertIs(self.shows(a, out, ("all", list(told))), False)
            self.assertIs(self.shows(a, out, ["all", told]), False)
            self.assertIs(self.shows(a, out, ("all", told, ())), False)
            self.assertIs(self.shows(a, out, ("never", told)), False)
            self.assertIs(self.shows(a, out, ("all", (*told, None))), False)
            self.assertIs(self.shows(a, out, ("all", (*told, NEAR.nothing))), False)
            self.assertIs(self.shows(a, out, ("all", (*told, FIELDS.made("in")))), False)
            self.assertIs(self.shows(a, out, ("all", tuple(SAME.group(one) for one in groups))), right)
        self.assertIs(self.shows(nothing(), nothing(), ("all", group(nothing()))), False)

    def test_not(self):
        for a, b, item, found, right in (
                (below("in"), at("out"), FIELDS.made("in/new"), at("in/new"), True),
                (below("in"), at("out"), FIELDS.made("in/new", size=3), at("in/new"), True),
                (below("in"), at("out"), FIELDS.made("in/new", size=3), at("in/new") & least("size", 2), True),
                (below("in"), at("out"), FIELDS.made("in/new", size=1), at("in/new") & least("size", 2), False),
                (below("in"), at("out"), FIELDS.made("in/new"), below("in"), False),
                (below("in"), at("out"), FIELDS.made("in/new"), at("in/new") | at("out"), False),
                (below("in"), at("out"), FIELDS.made("in"), at("in/new"), False),
                (below("in"), at("out"), FIELDS.made("in"), at("in"), False),
                (below("in"), at("out"), FIELDS.made("out"), at("out"), False),
                (at("in"), at("in/new"), FIELDS.made("in"), ~at("in/new"), True),
                (at("in"), at("in/new"), FIELDS.made("in"), at("in") | at("out") & marked("red"), True),
                (at("out"), at("in/new"), FIELDS.made("in"), ~at("in/new"), False),
                (at("in"), at("in/new"), FIELDS.made("in"), at("in") | at("out") - marked("red"), False),
                (at("in"), nothing(), FIELDS.made("in"), everything(), True)):
            told = group(found)
            self.assertIs(self.shows(a, b, ("not", item, told)), right)
            self.assertIs(self.shows(a, b, ["not", item, told]), False)
            self.assertIs(self.shows(a, b, ("not", told, item)), False)
            self.assertIs(self.shows(a, b, ("not", item)), False)
            self.assertIs(self.shows(a, b, ("not", item, told, told)), False)
            self.assertIs(self.shows(a, b, ("run", item, told)), False)
            self.assertIs(self.shows(a, b, ("not", item.key, told)), False)
            self.assertIs(self.shows(a, b, ("not", SAME.item_of(item.key), SAME.group(found))), right)
            self.assertIs(self.shows(a, b, ("not", NEAR.item_of(item.key), told)), False)
            self.assertIs(self.shows(a, b, ("not", item, NEAR.group(found))), False)

    def test_only_some_moves(self):
        come, out = group(at("in") & marked("red")), group(at("out"))
        for only, right in ((None, True), (("file",), True), (("tag",), False), ((), False)):
            self.assertIs(self.shows(at("in") & marked("red"), at("out"), ("all", (out, come)), only), right)
        for only, right in ((None, False), (("file",), False), (("tag",), True), ((), True)):
            self.assertIs(self.shows(at("in"), at("out"), ("not", FIELDS.made("in"), group(at("in"))), only), right)


class LookTest(unittest.TestCase):
    """Both held against what the document says of such values, over many values of which some are right."""

    def test_can(self):
        rights = []
        for shelves, walk, groups, chance in lots():
            for a, b in itertools.product(groups, repeat=2):
                start, goal = keys_of(a), keys_of(b)
                values = [("never", one) for one in (*groups, reach(shelves, a), ~back(shelves, b))]
                for number in range(12):
                    item = SMALL.item_of(chance.choice(walk.keys))
                    names = tuple(chance.choice(shelves.move_names) for name in range(chance.randrange(4)))
                    values.append(("run", item, names))
                for value in values:
                    if value[0] == "never":
                        here = keys_of(value[1])
                        right = start <= here and not goal & here and closed(walk, here)
                    else:
                        right = value[1].key in start and end_of(walk, value[1].key, value[2]) in goal
                    self.assertIs(shows_can(shelves, a, b, value), right)
                    rights.append((value[0], right))
        self.assertEqual(set(rights), {("never", True), ("never", False), ("run", True), ("run", False)})

    def test_all_can(self):
        rights = []
        for shelves, walk, groups, chance in lots():
            for a, b in itertools.product(groups, repeat=2):
                start, goal = keys_of(a), keys_of(b)
                told = all_can(shelves, a, b)
                layers = told[1] if told[0] == "all" else all_can(shelves, back(shelves, b), b)[1]
                values = [("all", layers[:many]) for many in range(1, len(layers) + 1)]
                values += [("all", (*layers[:-1], one, *layers[-1:])) for one in groups]
                for one in (*groups, ~back(shelves, b)):
                    item = SMALL.item_of(chance.choice(walk.keys))
                    values += [("not", item, one), ("not", item, reach(shelves, one)), ("not", a.least, one)]
                for value in values:
                    if value[0] == "all":
                        right = leads_all(walk, start, goal, [keys_of(one) for one in value[1]])
                    else:
                        right = value[1] is not None and value[1].key in start and value[1] in value[2] and not (
                            goal & keys_of(value[2])) and closed(walk, keys_of(value[2]))
                    self.assertIs(shows_all_can(shelves, a, b, value), right)
                    rights.append((value[0], right))
        self.assertEqual(set(rights), {("all", True), ("all", False), ("not", True), ("not", False)})

    def test_the_largest_fields(self):
        for number in range(6):
            shelves = some_moves(LARGEST, number, many=6)
            groups = [shelves.group(search) for search in some_searches(LARGEST, 4, number, names=shelves.names)]
            for a, b in itertools.permutations(groups, 2):
                value, other = can(shelves, a, b), all_can(shelves, a, b)
                self.assertIs(shows_can(shelves, a, b, value), True)
                self.assertIs(shows_all_can(shelves, a, b, other), True)
                self.assertIs(value[0] == "never", not a & back(shelves, b))
                self.assertIs(other[0] == "all", a <= back(shelves, b))


def lots():
    """Return (shelves, walk, groups, chance) for several lots of moves of small fields."""
    found = []
    for number in range(5):
        shelves = some_moves(SMALL, number + 40)
        groups = [SMALL.group(search) for search in some_searches(SMALL, 3, number)]
        found.append((shelves, Walk(shelves, shelves.move_names), [*groups, SMALL.everything, SMALL.nothing],
                      random.Random(number)))
    return found


def closed(walk, here):
    """Tell whether no move leads out of these items."""
    return all(other in here for key in here for name, other in walk.goes[key])


def end_of(walk, key, names):
    """Return to which item a run leads, None if a move is not allowed."""
    for name in names:
        key = dict(walk.goes.get(key, ())).get(name)
    return key


def leads_all(walk, start, goal, groups):
    """Tell whether the first group is within goal, each other one leads into those ahead, and start is in them."""
    met = groups[0]
    if not met <= goal:
        return False
    for here in groups[1:]:
        if not all(key in met or any(other in met for name, other in walk.goes[key]) for key in here):
            return False
        met = met | here
    return start <= met


class KindsTest(unittest.TestCase):
    def test_what_is_told_is_of_the_kinds_that_are_asked_for(self):
        shelves = example()
        self.assertIsInstance(can(shelves, group(at("in")), group(at("out")))[1], Item)
        self.assertIsInstance(all_can(shelves, group(at("out")), group(said("kind", "note") & shelf("new")))[2], Group)


if __name__ == "__main__":
    unittest.main()

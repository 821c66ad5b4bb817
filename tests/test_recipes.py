"""Section 13: recipes, and shows_recipe of any value (section 2)."""

import itertools
import random
import unittest

from helper import FIELDS, LARGEST, SMALL, WIDE, any_values, some_moves, some_searches
from test_ways import NEAR, Walk, counter, example, keys_of
from wishshelves.errors import NoMove, OtherFields, TooMany
from wishshelves.fields import Fields
from wishshelves.groups import Group
from wishshelves.moves import Move, tried
from wishshelves.recipes import recipe, shows_recipe
from wishshelves.searches import at, below, everything, filled, least, marked, nothing, said, shelf
from wishshelves.shelves import Shelves
from wishshelves.ways import back

# Equal to FIELDS, but another object.
SAME = Fields(FIELDS.folders, marks=FIELDS.marks, numbers=FIELDS.numbers, kinds=FIELDS.kinds)

# The third to the sixth of what the moves of counter() set, not set.
FOUR_OFF = ~marked("g") - marked("h") - least("i", 50) - filled("k")


def group(search):
    """Return the group of a search with the shelves of the example."""
    return example().group(search)


class Tries:
    """What becomes of sets of keys if moves are tried on each of their items."""

    def __init__(self, shelves, names):
        self.names = names
        self.goes = {key: dict(goes) for key, goes in Walk(shelves, names).goes.items()}

    def tried(self, name, keys):
        return frozenset(self.goes[key].get(name, key) for key in keys)

    def behind(self, names, keys):
        for name in names:
            keys = self.tried(name, keys)
        return keys

    def recipe(self, start, goal, most=100):
        """Return ('recipe', names), ('none', sets) or ('many',), by levels of all rows of names that are new."""
        self.rows = rows = {start: ()}
        level = [start]
        while level:
            for one in level:
                if one <= goal:
                    return ("recipe", rows[one])
            if len(rows) > most:
                return ("many",)
            found = {}
            for one, name in itertools.product(level, self.names):
                other = self.tried(name, one)
                if other not in rows:
                    found[other] = min(rows[one] + (name,), found.get(other, rows[one] + (name,)))
            rows.update(found)
            level = sorted(found, key=lambda one: found[one])
        return ("none", list(rows))


def told(shelves, a, b, only=None):
    """Return what recipe returns, with sets of keys instead of groups, ('many',) for TooMany."""
    try:
        value = recipe(shelves, a, b, only=only)
    except TooMany as error:
        return ("many",) if error.most == 100 else error.most
    if value[0] == "none":
        return ("none", [frozenset(keys_of(one)) for one in value[1]])
    return value


class ExamplesTest(unittest.TestCase):
    def test_the_examples_of_the_document(self):
        shelves, out = example(), FIELDS.group(at("out"))
        self.assertEqual(
            [recipe(shelves, FIELDS.group(at("in")), out),
             recipe(shelves, FIELDS.group(at("in") & marked("red")), out, only=("file",))],
            [("recipe", ("tag", "file")), ("recipe", ("file",))])
        self.assertEqual(recipe(shelves, FIELDS.group(below("in")), out)[0], "none")


class WalkTest(unittest.TestCase):
    """recipe held against a plain walk over sets of items."""

    def lots(self):
        for fields, many in ((FIELDS, 5), (SMALL, 20)):
            for number in range(many):
                shelves = some_moves(fields, number, many=3 + number % 4)
                for only in (None, shelves.move_names[::-1][:2], ()):
                    tries = Tries(shelves, shelves.move_names if only is None else sorted(only))
                    groups = [fields.group(search) for search in some_searches(fields, 3, number + 7)]
                    yield shelves, only, tries, [*groups, fields.nothing, fields.everything]

    def test_recipe(self):
        words = []
        for shelves, only, tries, groups in self.lots():
            for a, b in itertools.product(groups, repeat=2):
                found = told(shelves, a, b, only)
                self.assertEqual(found, tries.recipe(frozenset(keys_of(a)), frozenset(keys_of(b))))
                words.append(found[0])
                if found[0] != "many":
                    self.assertIs(shows_recipe(shelves, a, b, recipe(shelves, a, b, only=only), only=only), True)
        self.assertEqual(set(words), {"recipe", "none", "many"})

    def test_a_recipe_is_the_first_of_all_rows_of_names(self):
        lengths = []
        for number in range(40):
            shelves = some_moves(FIELDS, number + 100)
            tries = Tries(shelves, shelves.move_names)
            for a, b in itertools.permutations([FIELDS.group(one) for one in some_searches(FIELDS, 4, number)], 2):
                start, goal = frozenset(keys_of(a)), frozenset(keys_of(b))
                first = next((names for many in range(4) for names in itertools.product(shelves.move_names, repeat=many)
                              if tries.behind(names, start) <= goal), None)
                value = told(shelves, a, b)
                if first is None:
                    self.assertTrue(value[0] != "recipe" or len(value[1]) > 3)
                else:
                    self.assertEqual(value, ("recipe", first))
                    lengths.append(len(first))
                    # Each item of a can come to the goal by itself.
                    self.assertTrue(a <= back(shelves, b))
        self.assertEqual(set(lengths), {0, 1, 2, 3})

    def test_the_groups_of_none_stand_as_all_rows_of_names_tell(self):
        checked = 0
        for number in range(30):
            shelves = some_moves(SMALL, number + 200, many=3)
            tries = Tries(shelves, shelves.move_names)
            for search in some_searches(SMALL, 3, number):
                value = told(shelves, SMALL.group(search), SMALL.nothing)
                start = frozenset(keys_of(SMALL.group(search)))
                if value[0] == "none":
                    met = []
                    for many in range(7):
                        for names in itertools.product(shelves.move_names, repeat=many):
                            one = tries.behind(names, start)
                            met += [one] if one not in met else []
                    self.assertEqual(value[1][:len(met)], met)
                    checked += len(met) > 4
        self.assertGreater(checked, 10)


class RecipeTest(unittest.TestCase):
    def test_what_it_returns(self):
        shelves = example()
        value = recipe(shelves=shelves, a=FIELDS.group(at("in")), b=FIELDS.group(at("out")), only=None)
        self.assertEqual(repr(value), "('recipe', ('tag', 'file'))")
        value = recipe(shelves, FIELDS.group(below("in")), FIELDS.group(at("out")))
        self.assertEqual((value[0], len(value)), ("none", 2))
        self.assertIsInstance(value[1], tuple)
        self.assertTrue(all(isinstance(one, Group) for one in value[1]))
        self.assertRaises(TypeError, recipe, shelves, FIELDS.everything, FIELDS.everything, None)

    def test_a_recipe_without_names(self):
        for a, b in ((at("in"), at("in")), (at("in") & marked("red"), at("in")), (nothing(), nothing()),
                     (nothing(), at("in")), (everything(), everything())):
            for only in (None, (), ("tag",)):
                self.assertEqual(recipe(example(), group(a), group(b), only=only), ("recipe", ()))

    def test_groups_by_levels(self):
        low, red = at("in/new"), marked("red")
        value = recipe(example(), FIELDS.group(below("in")), FIELDS.group(at("out")))
        # Of all: by file the red ones are away, by tag all are red; then by file and tag, and by tag and file.
        searches = (below("in"), low | at("in") - red | at("out") & red, low | at("in") & red,
                    low | (at("in") | at("out")) & red, low | at("out") & red)
        self.assertEqual(value, ("none", tuple(FIELDS.group(one) for one in searches)))

    def test_of_the_shortest_ones_the_least_names(self):
        shelves = Shelves(FIELDS)
        for name in ("b", "c", "a"):
            shelves.set_move(name, Move(at("in"), to="out"))
        shelves.set_move("aa", Move(at("in/new"), to="in"))
        out = FIELDS.group(at("out"))
        self.assertEqual(recipe(shelves, FIELDS.group(at("in")), out), ("recipe", ("a",)))
        self.assertEqual(recipe(shelves, FIELDS.group(below("in")), out), ("recipe", ("aa", "a")))
        only = ("c", "aa", "b")
        self.assertEqual(recipe(shelves, FIELDS.group(below("in")), out, only=only), ("recipe", ("aa", "b")))

    def test_each_can_come_but_no_row_serves_for_all(self):
        shelves, red, blue = Shelves(SMALL), marked("red"), marked("blue")
        shelves.set_move("p", Move(everything(), on=("red",)))
        shelves.set_move("q", Move(everything(), on=("blue",)))
        zoo, ant = SMALL.group(said("kind", "zoo") - red - blue), SMALL.group(said("kind", "ant") - red - blue)
        goal = SMALL.group(said("kind", "zoo") & red - blue | said("kind", "ant") & blue - red)
        self.assertEqual([recipe(shelves, zoo, goal), recipe(shelves, ant, goal)],
                         [("recipe", ("p",)), ("recipe", ("q",))])
        self.assertTrue(zoo | ant <= back(shelves, goal))
        self.assertEqual((recipe(shelves, zoo | ant, goal)[0], len(recipe(shelves, zoo | ant, goal)[1])), ("none", 4))

    def test_without_moves(self):
        for shelves, only in ((Shelves(FIELDS), None), (Shelves(FIELDS), ()), (example(), ())):
            a, b = FIELDS.group(at("in")), FIELDS.group(at("out"))
            self.assertEqual(recipe(shelves, a, b, only=only), ("none", (a,)))
            self.assertEqual(recipe(shelves, a, a | b, only=only), ("recipe", ()))

    def test_a_move_may_stand_several_times(self):
        shelves = Shelves(FIELDS)
        shelves.set_move("red", Move(at("out") - marked("red"), to="in", on=("red",)))
        shelves.set_move("up", Move(at("in") & marked("red") | at("in/new"), to="out", off=("red",)))
        shelves.set_move("go", Move(at("in") & marked("red") & filled("kind"), to="in/new", sets=(("kind", None),)))
        value = recipe(shelves, FIELDS.group(at("out") - marked("red") & said("kind", "note")), FIELDS.group(
            at("in") & marked("red") - filled("kind")))
        self.assertEqual(value, ("recipe", ("red", "go", "up", "red")))


class BoundTest(unittest.TestCase):
    """A hundred groups and more; what is drawn has just so many."""

    def groups(self, fields, seed, place):
        """Return the Shelves of a seed, a group, and the least names of all groups that come of it."""
        shelves = some_moves(fields, seed, many=6)
        a = ([fields.everything] + [fields.group(one) for one in some_searches(fields, 3, seed)])[place]
        tries = Tries(shelves, shelves.move_names)
        tries.recipe(frozenset(keys_of(a)), frozenset(), most=1000)
        return shelves, a, tries.rows

    def test_a_hundred(self):
        for fields, seed, place in ((WIDE, 79, 0), (SMALL, 96, 0), (FIELDS, 306, 0)):
            shelves, a, rows = self.groups(fields, seed, place)
            self.assertEqual(len(rows), 100)
            value = recipe(shelves, a, fields.nothing)
            self.assertEqual((value[0], [frozenset(keys_of(one)) for one in value[1]]), ("none", list(rows)))
            self.assertIs(shows_recipe(shelves, a, fields.nothing, value), True)
            self.assertIs(shows_recipe(shelves, a, fields.nothing, ("none", value[1][:1])), False)

    def test_a_hundred_and_one(self):
        for fields, seed, place in ((WIDE, 193, 3), (WIDE, 153, 0)):
            shelves, a, rows = self.groups(fields, seed, place)
            self.assertEqual(len(rows), 101)
            with self.assertRaises(TooMany) as caught:
                recipe(shelves, a, fields.nothing)
            self.assertEqual(caught.exception.most, 100)
            # They show it all the same: TooMany is not raised by shows_recipe.
            told_groups = tuple(behind(shelves, a, names) for names in rows.values())
            self.assertIs(shows_recipe(shelves, a, fields.nothing, ("none", told_groups)), True)
            self.assertIs(shows_recipe(shelves, a, fields.nothing, ("none", told_groups[:1])), False)
            self.assertIs(shows_recipe(shelves, a, fields.nothing, None), False)

    def test_a_goal_of_the_level_in_which_the_bound_is_passed(self):
        shelves, a, rows = self.groups(WIDE, 193, 3)
        tries, lengths = Tries(shelves, shelves.move_names), []
        for keys, names in list(rows.items())[-9:]:
            b = behind(shelves, a, names)
            value = recipe(shelves, a, b)
            self.assertEqual(value, tries.recipe(frozenset(keys_of(a)), keys))
            self.assertIs(shows_recipe(shelves, a, b, value), True)
            lengths.append(len(value[1]))
        # Levels of 1, 6, 18, 36, 31 and 9 groups: with the last one there are 101.
        self.assertEqual(lengths.count(5), 4)

    def test_a_goal_of_a_later_level_is_not_looked_for(self):
        shelves = counter()
        ahead = FOUR_OFF & ~marked("e") & (~filled("j") | marked("f")) & (filled("j") | ~marked("f"))
        start, goal = shelves.group(ahead & at("b")), shelves.group(shelf("high"))
        with self.assertRaises(TooMany) as caught:
            recipe(shelves, start, goal)
        self.assertEqual(caught.exception.most, 100)
        names = ""
        for name in "sixmov":
            names = names + name + names
        self.assertIs(shows_recipe(shelves, start, goal, ("recipe", tuple(names))), True)
        self.assertIs(shows_recipe(shelves, start, goal, ("recipe", tuple(names[:-1]))), False)

    def test_the_largest_fields(self):
        shelves = counter()
        start, goal = shelves.group(shelf("low") & at("b")), shelves.group(shelf("high"))
        names = ""
        for name in "sixmov":
            names = names + name + names
        self.assertEqual(recipe(shelves, start, goal), ("recipe", tuple(names)))
        self.assertIs(shows_recipe(shelves, start, goal, ("recipe", tuple(names))), True)
        self.assertIs(shows_recipe(shelves, start, goal, ("recipe", tuple(names[1:]))), False)
        self.assertIs(shows_recipe(shelves, start, goal, ("recipe", tuple(names) * 20)), True)
        value = recipe(shelves, start, goal & LARGEST.group(at("a")))
        self.assertEqual((value[0], len(value[1]), value[1][0] == start), ("none", 64, True))
        self.assertIs(shows_recipe(shelves, start, goal & LARGEST.group(at("a")), value), True)
        for number in range(4):
            shelves = some_moves(LARGEST, number, many=5)
            groups = [shelves.group(search) for search in some_searches(LARGEST, 3, number, names=shelves.names)]
            for a, b in itertools.permutations(groups, 2):
                if told_word(shelves, a, b) != "many":
                    self.assertIs(shows_recipe(shelves, a, b, recipe(shelves, a, b)), True)


def told_word(shelves, a, b):
    """Return the word that recipe tells, 'many' for TooMany."""
    try:
        return recipe(shelves, a, b)[0]
    except TooMany:
        return "many"


def behind(shelves, a, names):
    """Return what becomes of a group if these moves are tried on it, one behind the other."""
    for name in names:
        a = tried(shelves, name, a)
    return a


class ShowsTest(unittest.TestCase):
    def shows(self, a, b, value, only=None):
        found = shows_recipe(example(), group(a), group(b), value, only=only)
        self.assertIsInstance(found, bool)
        return found

    def test_any_value(self):
        for value in [*any_values(), "recipe", "none", ("recipe",), ("none",), (), ("recipe", None), ("none", None),
                      ("none", ()), ("recipe", ("x",)), ("recipe", "tag"), ("recipe", ["tag", "file"])]:
            self.assertIs(self.shows(everything(), everything(), value), False)
            self.assertIs(self.shows(everything(), nothing(), value), False)
            self.assertIs(self.shows(nothing(), everything(), ("recipe", (value,))), False)
            self.assertIs(self.shows(nothing(), everything(), ("recipe", ("tag", value, "file"))), False)
            self.assertIs(self.shows(at("in"), at("out"), (value, ("tag", "file"))), value == "recipe")
            self.assertIs(self.shows(at("out"), at("in"), (value, (group(at("out")),))), value == "none")
            self.assertIs(self.shows(at("out"), at("in"), ("none", value)), False)
        for value in any_values():
            plain = isinstance(value, Group) and value == FIELDS.everything
            self.assertIs(self.shows(everything(), nothing(), ("none", (value,))), False)
            self.assertIs(self.shows(at("out"), at("in"), ("none", (group(at("out")), value))), plain)

    def test_recipes(self):
        for a, b, names, right in (
                (at("in"), at("out"), ("tag", "file"), True), (at("in"), at("out"), ("tag", "tag", "file"), True),
                (at("in"), at("out"), ("tag", "file", "tag"), True), (at("in"), at("out"), ("file", "tag"), False),
                (at("in"), at("out"), ("file", "tag", "file"), True), (at("in"), at("out"), (), False),
                (at("in"), below("in"), (), True), (at("in"), at("in"), ("file",), False),
                (below("in"), at("out"), ("tag", "file"), False), (nothing(), nothing(), ("tag",), True),
                (at("in/new"), at("in/new"), ("tag", "file") * 30, True), (at("in"), at("out"), ("tag", "big"), False)):
            self.assertIs(self.shows(a, b, ("recipe", names)), right)
            self.assertIs(self.shows(a, b, ("recipe", list(names))), False)
            self.assertIs(self.shows(a, b, ["recipe", names]), False)
            self.assertIs(self.shows(a, b, ("none", names)), False)
            self.assertIs(self.shows(a, b, ("recipe", names, names)), False)
            self.assertIs(self.shows(a, b, ("run", names)), False)
            self.assertIs(self.shows(a, b, (names, "recipe")), False)

    def test_none(self):
        low, out, red = at("in/new"), at("out"), marked("red")
        for a, b, groups, right in (
                (below("in"), out, (low,), True), (low, out, (low,), True), (below("in"), out, (low & red,), True),
                (below("in"), out, (low & red, low - red), True), (below("in"), out, (below("in"),), False),
                (at("in"), low, (at("in") | out,), False), (at("in"), low, (everything(),), False),
                (at("in"), low, (at("in"), out & red), False), (at("in") & red, low, (at("in") & red, out & red), True),
                (at("in"), low, (at("in") & red, out & red), True), (at("in") & red, low, (at("in") & red,), False),
                (at("in") - red, low, (at("in") & red, out & red), False),
                (at("in") - red, low, (at("in") - red, at("in") & red, out & red), True),
                (at("in") - red, low, (out & red, at("in") - red, at("in") & red), True),
                (below("in"), out, (nothing(),), False), (below("in"), out, (low, nothing()), False),
                (below("in"), out, (low, out), False), (below("in"), out, (low, out | low), True),
                (out, nothing(), (out & red, low), True), (out, nothing(), (low,), False), (out, nothing(), (), False),
                (nothing(), nothing(), (out,), False), (below("in"), low | at("in"), (low,), False)):
            here = tuple(group(one) for one in groups)
            self.assertIs(self.shows(a, b, ("none", here)), right)
            self.assertIs(self.shows(a, b, ("none", here + here)), right)
            self.assertIs(self.shows(a, b, ("none", list(here))), False)
            self.assertIs(self.shows(a, b, ["none", here]), False)
            self.assertIs(self.shows(a, b, ("recipe", here)), a == nothing() and here == ())
            self.assertIs(self.shows(a, b, ("none", here, here)), False)
            self.assertIs(self.shows(a, b, ("none", (*here, None))), False)
            self.assertIs(self.shows(a, b, ("none", (*here, NEAR.everything))), False)
            self.assertIs(self.shows(a, b, ("none", (*here, FIELDS.made("in")))), False)
            self.assertIs(self.shows(a, b, ("none", tuple(SAME.group(one) for one in groups))), right)
            self.assertIs(self.shows(a, b, ("none", tuple(NEAR.group(one) for one in groups))), False)

    def test_only_some_moves(self):
        red = marked("red")
        for only, right in ((None, True), (("tag", "file"), True), (("file", "tag"), True), (("tag",), False),
                            (("file",), False), ((), False)):
            self.assertIs(self.shows(at("in"), at("out"), ("recipe", ("tag", "file")), only), right)
        told_groups = (group(at("in") - red),)
        for only, right in ((None, False), (("tag",), False), (("file",), True), ((), True)):
            self.assertIs(self.shows(at("in"), at("out"), ("none", told_groups), only), right)

    def test_held_against_what_the_document_says(self):
        rights = []
        for number in range(6):
            shelves, chance = some_moves(SMALL, number + 40), random.Random(number)
            tries = Tries(shelves, shelves.move_names)
            searches = [SMALL.group(search) for search in some_searches(SMALL, 4, number)]
            pool = [*searches, SMALL.everything, SMALL.nothing]
            pool += [tried(shelves, name, one) for name in shelves.move_names for one in searches]
            pool += [one & other for one, other in itertools.combinations(searches, 2)]
            for a, b in itertools.product(pool[:6], repeat=2):
                start, goal = keys_of(a), keys_of(b)
                for trial in range(6):
                    names = tuple(chance.choice(shelves.move_names) for name in range(chance.randrange(4)))
                    right = tries.behind(names, start) <= goal
                    self.assertIs(shows_recipe(shelves, a, b, ("recipe", names)), right)
                    rights.append(("recipe", right))
                value = told(shelves, a, b)
                closed = [frozenset(keys_of(one)) for one in recipe(shelves, a, b)[1]] if value[0] == "none" else []
                for trial in range(6):
                    groups = tuple(chance.sample(pool, chance.randrange(1, 4)))
                    if closed and trial < 4:
                        groups = tuple(one for one in recipe(shelves, a, b)[1] if chance.random() < 0.9 or trial < 1)
                    self.assertIs(shows_recipe(shelves, a, b, ("none", groups)), keeps_out(tries, start, goal, groups))
                    rights.append(("none", keeps_out(tries, start, goal, groups)))
        self.assertEqual(set(rights), {("recipe", True), ("recipe", False), ("none", True), ("none", False)})


def keeps_out(tries, start, goal, groups):
    """Tell whether groups are none within goal, one within start, one within what becomes of each by each move."""
    sets = [frozenset(keys_of(one)) for one in groups]
    if not sets or any(one <= goal for one in sets) or not any(one <= start for one in sets):
        return False
    return all(any(other <= tries.tried(name, one) for other in sets) for one in sets for name in tries.names)


class WrongTest(unittest.TestCase):
    def calls(self, shelves, a, b, only):
        return [lambda: recipe(shelves, a, b, only=only), lambda: shows_recipe(shelves, a, b, None, only=only),
                lambda: shows_recipe(shelves, a, b, ("recipe", ()), only=only)]

    def test_no_move(self):
        for value, only in (
                [(value, value) for value in [*any_values(), "file", 0, ["file"]]
                 if value is not None and not isinstance(value, tuple)]
                + [(value, ("tag", value, "zzz")) for value in [*any_values(), "new", 0, ("file",)]]
                + [("tag", ("tag", "tag")), ("file", ("tag", "file", "file"))]):
            for a, b in ((FIELDS.everything, FIELDS.nothing), (WIDE.everything, NEAR.nothing)):
                for call in self.calls(example(), a, b, only):
                    with self.assertRaises(NoMove) as caught:
                        call()
                    self.assertIs(caught.exception.value, value)

    def test_other_fields(self):
        for a, b in ((WIDE.everything, FIELDS.everything), (FIELDS.everything, NEAR.nothing), (NEAR.nothing,) * 2):
            for only in (None, (), ("file",)):
                for call in self.calls(example(), a, b, only):
                    self.assertRaises(OtherFields, call)

    def test_nothing_is_changed(self):
        shelves, a, b = example(), FIELDS.group(at("in")), FIELDS.group(at("out"))
        groups = (FIELDS.group(at("in")), FIELDS.group(at("out")))
        for only in (None, ("tag",), ()):
            for call in self.calls(shelves, a, b, only):
                call()
            shows_recipe(shelves, a, b, ("none", groups), only=only)
        self.assertTrue(shelves == example() and a == FIELDS.group(at("in")) and b == FIELDS.group(at("out")))


if __name__ == "__main__":
    unittest.main()

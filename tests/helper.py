"""What several tests need: fields, any values, searches by the dozen, a stand-in for Shelves."""

import random

from wishshelves.desk import Desk
from wishshelves.errors import BadName
from wishshelves.fields import Fields
from wishshelves.moves import Move
from wishshelves.room import Room
from wishshelves.searches import at, below, everything, filled, least, marked, most, nothing, said, shelf
from wishshelves.shelves import Shelves

FIELDS = Fields(("in", "in/new", "out"), marks=("red",), numbers=(("size", 3),), kinds=(("kind", ("note", "list")),))

# Two of everything, so that the sequence of fields within a kind of field counts.
WIDE = Fields(
    ("a", "a/b", "a/b/c", "b"), marks=("red", "blue"), numbers=(("size", 2), ("age", 1)),
    kinds=(("kind", ("zoo", "ant")), ("tone", ("low",))))

# Few items, but each kind of field, one with a single value among them.
SMALL = Fields(("a",), marks=("red", "blue"), numbers=(("size", 1),), kinds=(("kind", ("zoo", "ant")),))

# As many items as there can be: six folders, four marks, two numbers to 99, two kinds of four words.
LARGEST = Fields(
    ("a", "a/b", "a/b/c", "b", "c", "d"), marks=("e", "f", "g", "h"), numbers=(("i", 99), ("j", 99)),
    kinds=(("k", ("a", "b", "c", "d")), ("l", ("d", "c", "b", "a"))))


class Kept:
    """Searches under names: as much of Shelves as searches look at."""

    def __init__(self, fields, **searches):
        self.fields = fields
        self.searches = searches

    def __contains__(self, name):
        return name in self.searches

    def __getitem__(self, name):
        return self.searches[name]


def conditions_for(fields, names=()):
    """Return many conditions that fit these fields, and the shelves of these names."""
    made = [everything(), nothing(), *[shelf(name) for name in names]]
    made += [one(path) for path in fields.folders for one in (at, below)]
    made += [marked(name) for name in fields.marks]
    for name, top in fields.numbers:
        made += [filled(name), *[one(name, number) for number in {0, 1, top, top + 1, 40, 99} if number < 100
                                 for one in (least, most)]]
    for name, words in fields.kinds:
        made += [filled(name), said(name, "other"), *[said(name, word) for word in words]]
    return made


def some_searches(fields, many, seed, longest=12, names=()):
    """Return so many searches that fit these fields and shelves, of up to so many conditions, the same each time."""
    chance = random.Random(seed)
    conditions = conditions_for(fields, names)
    return [one_search(chance, conditions, chance.randint(1, longest)) for number in range(many)]


def one_search(chance, conditions, many):
    """Return a search of so many of these conditions."""
    if many == 1:
        search = chance.choice(conditions)
    else:
        cut = chance.randrange(1, many)
        one, other = one_search(chance, conditions, cut), one_search(chance, conditions, many - cut)
        search = chance.choice([lambda: one & other, lambda: one | other, lambda: one ^ other, lambda: one - other])()
    return ~search if chance.random() < 0.2 else search


def some_moves(fields, seed, many=4):
    """Return a Shelves with some shelves and moves, the same each time."""
    chance = random.Random(seed)
    shelves = Shelves(fields)
    for name, search in zip(("one", "two"), some_searches(fields, 2, seed, longest=5)):
        shelves[name] = search
    conditions = conditions_for(fields, shelves.names)
    for name in ("am", "be", "do", "go", "is", "mow")[:many]:
        search = one_search(chance, conditions, chance.randint(1, 4))
        marks = {mark: chance.choice(["on", "off", None]) for mark in fields.marks}
        choices = dict(zip(fields.names, all_choices(fields)))
        names = [one for one, more in fields.kinds + fields.numbers if chance.random() < 0.4]
        shelves.set_move(name, Move(
            search, to=chance.choice([None, *fields.folders]), on=tuple(one for one in marks if marks[one] == "on"),
            off=tuple(one for one in marks if marks[one] == "off"),
            sets=tuple((one, chance.choice(choices[one])) for one in names)))
    return shelves


def repr_of(search):
    """Return the whole of a search as a text."""
    return repr([repr_of(part) if hasattr(part, "parts") else part for part in search.parts])


def all_items(fields):
    """Return all items of some fields, from the least on."""
    keys = [()]
    for choices in all_choices(fields):
        keys = [key + (choice,) for key in keys for choice in choices]
    return [fields.item_of(key) for key in keys]


def all_choices(fields):
    """Return the values of each field, in their sequence, worked out from the four arguments alone."""
    choices = [fields.folders] + [(False, True) for mark in fields.marks]
    choices += [(None,) + tuple(range(most + 1)) for name, most in fields.numbers]
    return choices + [(None,) + words for name, words in fields.kinds]


def deep(made):
    """Return a value that is nested 20 deep by a function that puts a value into another one."""
    value = "in"
    for level in range(20):
        value = made(value)
    return value


def any_values():
    """Return values of every kind none of which is a name, a path, a number from 0 to 99 or a tuple of names."""
    return [
        None, True, False, -1, 100, 10 ** 30 - 1, 1 - 10 ** 30,
        "", " ", "A", "In", "IN", "iN", "a1", "a_b", "a b", " a", "a ", "a\n", "a-b", "abcdefghi", "a.b", "a\\b",
        "\u00e4", "\u00df", "\u0430", "\u0131n", "\uff41", "a\u0301", "\x00", "/", "//", "a/", "/a", "a//b", "a/b/c/d",
        "in/New", "in/abcdefghi", ("in", 1), ("In",), (None,), ("in", "in"), [], ["in"], ["in", "red"],
        {}, {"in": "red"},
        deep(lambda value: [value]), deep(lambda value: (value,)), deep(lambda value: {"in": value}),
        FIELDS, FIELDS.made("in"), at("in"), at("in") & marked("red"), ~at("in"), BadName("in"),
        FIELDS.everything, FIELDS.nothing, WIDE.group(at("a")), Move(at("in")), Shelves(FIELDS), Room(FIELDS),
        a_room()[0], Desk("folders in\ndeeds"),
    ]


def a_room():
    """Return a room with one entry."""
    room = Room(FIELDS)
    room.add(FIELDS.made("in"))
    return room

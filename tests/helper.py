"""What several tests need: fields, any values, a stand-in for Shelves."""

from wishshelves.errors import BadName
from wishshelves.fields import Fields
from wishshelves.searches import at, marked

FIELDS = Fields(("in", "in/new", "out"), marks=("red",), numbers=(("size", 3),), kinds=(("kind", ("note", "list")),))

# Two of everything, so that the sequence of fields within a kind of field counts.
WIDE = Fields(
    ("a", "a/b", "a/b/c", "b"), marks=("red", "blue"), numbers=(("size", 2), ("age", 1)),
    kinds=(("kind", ("zoo", "ant")), ("tone", ("low",))))


class Kept:
    """Searches under names: as much of Shelves as searches look at."""

    def __init__(self, fields, **searches):
        self.fields = fields
        self.searches = searches

    def __contains__(self, name):
        return name in self.searches

    def __getitem__(self, name):
        return self.searches[name]


def all_items(fields):
    """Return all items of some fields, from the least on."""
    keys = [()]
    for choices in all_choices(fields):
        keys = [key + (choice,) for key in keys for choice in choices]
    return [fields.item_of(key) for key in keys]


def all_choices(fields):
    """Return the values of each field, in their sequence, worked out from the four arguments alone."""
    choices = [fields.folders] + [(False, True) for mark in fields.marks]
    choices += [(None,) + tuple(range(most + 1)) for name, most in fields.numbers]
    return choices + [(None,) + words for name, words in fields.kinds]


def deep(made):
    """Return a value that is nested 20 deep by a function that puts a value into another one."""
    value = "in"
    for level in range(20):
        value = made(value)
    return value


def any_values():
    """Return values of every kind none of which is a name, a path, a number from 0 to 99 or a tuple of names."""
    return [
        None, True, False, -1, 100, 10 ** 30 - 1, 1 - 10 ** 30,
        "", " ", "A", "In", "IN", "iN", "a1", "a_b", "a b", " a", "a ", "a\n", "a-b", "abcdefghi", "a.b", "a\\b",
        "\u00e4", "\u00df", "\u0430", "\u0131n", "\uff41", "a\u0301", "\x00", "/", "//", "a/", "/a", "a//b", "a/b/c/d",
        "in/New", "in/abcdefghi", ("in", 1), ("In",), (None,), ("in", "in"), [], ["in"], ["in", "red"],
        {}, {"in": "red"},
        deep(lambda value: [value]), deep(lambda value: (value,)), deep(lambda value: {"in": value}),
        FIELDS, FIELDS.made("in"), at("in"), at("in") & marked("red"), ~at("in"), BadName("in"),
    ]

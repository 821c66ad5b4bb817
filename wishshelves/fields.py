"""Fields: which folders, marks, numbers and kinds items have, and the items that there can be of them."""

from wishshelves.diagrams import plain_rows
from wishshelves.errors import BadFields, BadKey, BadValue, NoField, NoFolder, NoMark
from wishshelves.groups import Group
from wishshelves.items import Item
from wishshelves.meanings import node_of
from wishshelves.names import HIGHEST, are_names, are_pairs, firsts, is_path, is_whole, place_among
from wishshelves.searches import check_use
from wishshelves.stores import Store

BARRED = ("folder", "self")
MOST_FOLDERS = 6
MOST_MARKS = 4
MOST_NUMBERS = 2
MOST_KINDS = 2
MOST_WORDS = 4


class Fields:
    """The fields of items: choices tells for each the values that it can have, from the least on, sizes how many."""

    def __init__(self, folders, *, marks=(), numbers=(), kinds=()):
        check_fields(folders, marks, numbers, kinds)
        self.folders = folders
        self.marks = marks
        self.numbers = numbers
        self.kinds = kinds
        self.number_names = firsts(numbers)
        self.kind_names = firsts(kinds)
        self.names = ("folder",) + marks + self.number_names + self.kind_names
        self.choices = choices_of(folders, marks, numbers, kinds)
        self.sizes = tuple([len(choices) for choices in self.choices])
        self.many = product_of(self.sizes)
        self.everything = Group(self, (1, plain_rows(len(self.names))))
        self.nothing = Group(self, (0, plain_rows(len(self.names))))

    def __eq__(self, other):
        return (isinstance(other, Fields) and self.folders == other.folders and self.marks == other.marks
                and self.numbers == other.numbers and self.kinds == other.kinds)

    def made(self, folder, *marks, **values):
        """Return the item in this folder with these marks and these values, and None for all others."""
        if place_among(self.folders, folder) < 0:
            raise NoFolder(folder)
        for mark in marks:
            if place_among(self.marks, mark) < 0 or marks.count(mark) > 1:
                raise NoMark(mark)
        valued = self.number_names + self.kind_names
        for name in values:
            if name not in valued:
                raise NoField(name)
        for name, value in values.items():
            if place_among(self.choices[self.names.index(name)], value) < 0:
                raise BadValue(name, value)
        marked = [mark in marks for mark in self.marks]
        return self.item_of((folder, *marked, *[values.get(name) for name in valued]))

    def item_of(self, key):
        """Return the item with this key."""
        if not isinstance(key, tuple) or len(key) != len(self.names):
            raise BadKey(key)
        places = tuple([place_among(choices, value) for choices, value in zip(self.choices, key)])
        if -1 in places:
            raise BadKey(key)
        return Item(self, places)

    def group(self, search, shelves=None):
        """Return the group of all items of which a search is true; shelves tells what the shelves are that it names."""
        check_use(search, self, shelves)
        store = Store(self)
        return Group(self, store.diagram_of(node_of(store, search, shelves, {})))


def check_fields(folders, marks, numbers, kinds):
    """Raise BadFields for the first argument that is not right."""
    if not are_folders(folders):
        raise BadFields(folders)
    if not are_marks(marks):
        raise BadFields(marks)
    if not are_numbers(numbers, BARRED + marks):
        raise BadFields(numbers)
    if not are_kinds(kinds, BARRED + marks + firsts(numbers)):
        raise BadFields(kinds)


def are_folders(value):
    """Tell whether a value is an ascending tuple of 1 to 6 paths, each with those that it lies in."""
    if not isinstance(value, tuple) or not 1 <= len(value) <= MOST_FOLDERS or not all([is_path(one) for one in value]):
        return False
    ascending = all([one < other for one, other in zip(value, value[1:])])
    return ascending and all(["/" not in path or path.rpartition("/")[0] in value for path in value])


def are_marks(value):
    """Tell whether a value is a tuple of at most 4 different names that fields can have."""
    return are_names(value) and len(value) <= MOST_MARKS and are_free(value, BARRED)


def are_numbers(value, taken):
    """Tell whether a value is a tuple of at most 2 pairs (name, most), the names not among those taken."""
    if not are_named_pairs(value, taken) or len(value) > MOST_NUMBERS:
        return False
    return all([is_whole(most, 1, HIGHEST) for name, most in value])


def are_kinds(value, taken):
    """Tell whether a value is a tuple of at most 2 pairs (name, words), the names not among those taken."""
    if not are_named_pairs(value, taken) or len(value) > MOST_KINDS:
        return False
    return all([are_names(words) and 1 <= len(words) <= MOST_WORDS for name, words in value])


def are_named_pairs(value, taken):
    """Tell whether a value is a tuple of pairs whose firsts are different names, none of them among those taken."""
    return are_pairs(value) and are_names(firsts(value)) and are_free(firsts(value), taken)


def are_free(names, taken):
    """Tell whether none of these names is among those taken."""
    return not any([name in taken for name in names])


def choices_of(folders, marks, numbers, kinds):
    """Return for each field the tuple of its values, from the least on."""
    choices = [folders]
    choices.extend([(False, True) for _ in marks])
    choices.extend([(None, *list(range(most + 1))) for name, most in numbers])
    choices.extend([(None, *words) for name, words in kinds])
    return tuple(choices)


def product_of(counts):
    """Return the product of these counts."""
    product = 1
    for count in counts:
        product = product * count
    return product

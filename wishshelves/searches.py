"""Searches: conditions, and what operators make of them."""

from wishshelves.errors import BadWord, NoField, NoFolder, NoShelf, OtherFields, TooLong
from wishshelves.names import HIGHEST, is_name, is_path, is_whole

MOST_CONDITIONS = 16
ROW_WORDS = ("and", "or", "either")
FOLDER_WORDS = ("at", "below")


class Search:
    """A search by its parts: a word and its arguments, ("not", search), or the word of a row and its members."""

    def __init__(self, parts):
        self.parts = parts
        self.conditions = conditions_of(parts)
        self.shelves = shelves_of(self.conditions)
        self.many = len(self.conditions)

    def __eq__(self, other):
        return isinstance(other, Search) and self.parts == other.parts

    def __and__(self, other):
        if not isinstance(other, (Search, str)):
            return NotImplemented
        return row_of("and", self, search_of(other))

    def __rand__(self, other):
        if not isinstance(other, str):
            return NotImplemented
        return row_of("and", shelf(other), self)

    def __or__(self, other):
        if not isinstance(other, (Search, str)):
            return NotImplemented
        return row_of("or", self, search_of(other))

    def __ror__(self, other):
        if not isinstance(other, str):
            return NotImplemented
        return row_of("or", shelf(other), self)

    def __xor__(self, other):
        if not isinstance(other, (Search, str)):
            return NotImplemented
        return row_of("either", self, search_of(other))

    def __rxor__(self, other):
        if not isinstance(other, str):
            return NotImplemented
        return row_of("either", shelf(other), self)

    def __sub__(self, other):
        if not isinstance(other, (Search, str)):
            return NotImplemented
        return row_of("and", self, ~search_of(other))

    def __rsub__(self, other):
        if not isinstance(other, str):
            return NotImplemented
        return row_of("and", shelf(other), ~self)

    def __invert__(self):
        if self.parts[0] == "not":
            return self.parts[1]
        return Search(("not", self))

    def __call__(self, item, shelves=None):
        """Tell whether this search is true of an item; shelves tells what the shelves are that it names."""
        check_use(self, item.fields, shelves)
        return is_true(self, item, shelves, {})


def at(path):
    """Return the search for what lies in this folder."""
    return folder_search("at", path)


def below(path):
    """Return the search for what lies in this folder, or in one whose path begins with it and a slash."""
    return folder_search("below", path)


def marked(name):
    """Return the search for what has this mark."""
    return name_search("marked", name)


def least(name, number):
    """Return the search for what has a number of this name that is at least so great."""
    return number_search("least", name, number)


def most(name, number):
    """Return the search for what has a number of this name that is at most so great."""
    return number_search("most", name, number)


def filled(name):
    """Return the search for what has a number, or a word, of this name."""
    return name_search("filled", name)


def said(name, word):
    """Return the search for what has this word of this kind."""
    if not is_name(name):
        raise BadWord(name)
    if not is_name(word):
        raise BadWord(word)
    return Search(("said", name, word))


def shelf(name):
    """Return the search for what the search of this shelf is true of."""
    return name_search("shelf", name)


def everything():
    """Return the search that is true of all items."""
    return Search(("everything",))


def nothing():
    """Return the search that is true of no item."""
    return Search(("nothing",))


def folder_search(word, path):
    """Return the condition of this word about a folder."""
    if not is_path(path):
        raise BadWord(path)
    return Search((word, path))


def name_search(word, name):
    """Return the condition of this word about what has a name."""
    if not is_name(name):
        raise BadWord(name)
    return Search((word, name))


def number_search(word, name, number):
    """Return the condition of this word about the number of a name."""
    if not is_name(name):
        raise BadWord(name)
    if not is_whole(number, 0, HIGHEST):
        raise BadWord(number)
    return Search((word, name, number))


def search_of(operand):
    """Return what stands on one side of an operator as a search."""
    return shelf(operand) if isinstance(operand, str) else operand


def row_of(word, one, other):
    """Return the row of two searches, those that are rows of the same word laid flat."""
    if one.many + other.many > MOST_CONDITIONS:
        raise TooLong(MOST_CONDITIONS)
    return Search((word,) + members_for(word, one) + members_for(word, other))


def members_for(word, search):
    """Return what a search brings into a row of this word."""
    return search.parts[1:] if search.parts[0] == word else (search,)


def conditions_of(parts):
    """Return the parts of all conditions in a search of these parts, as they stand."""
    if parts[0] != "not" and parts[0] not in ROW_WORDS:
        return (parts,)
    return tuple([condition for member in parts[1:] for condition in member.conditions])


def shelves_of(conditions):
    """Return the names of the shelves in these conditions, ascending."""
    return tuple(sorted(set([str(condition[1]) for condition in conditions if condition[0] == "shelf"])))


def check_use(search, fields, shelves):
    """Raise an error if a search cannot be used with these fields, and with these shelves or None."""
    if shelves is not None and shelves.fields != fields:
        raise OtherFields()
    check_fits(search, fields, () if shelves is None else shelves)


def check_fits(search, fields, shelf_names):
    """Raise an error for the first condition that does not fit the fields and the names of the shelves there are."""
    for condition in search.conditions:
        word = condition[0]
        if word in FOLDER_WORDS:
            if condition[1] not in fields.folders:
                raise NoFolder(condition[1])
        elif word == "shelf":
            if condition[1] not in shelf_names:
                raise NoShelf(condition[1])
        elif len(condition) > 1 and condition[1] not in names_for(word, fields):
            raise NoField(condition[1])


def renamed(search, old, new):
    """Return a search in which each condition about one shelf is about another one."""
    parts = search.parts
    if parts == ("shelf", old):
        return shelf(new)
    if parts[0] != "not" and parts[0] not in ROW_WORDS:
        return search
    return Search((parts[0], *[renamed(member, old, new) for member in parts[1:]]))


def names_for(word, fields):
    """Return the names of the fields that a condition of this word can be about."""
    if word == "marked":
        return fields.marks
    if word == "said":
        return fields.kind_names
    if word == "filled":
        return fields.number_names + fields.kind_names
    return fields.number_names


def asked_field(condition):
    """Return the name of the field that a condition asks, which is about no shelf, not everything and not nothing."""
    return "folder" if condition[0] in FOLDER_WORDS else condition[1]


def allows(condition, value):
    """Tell whether a condition is true of all items with this value of the field that it asks."""
    word = condition[0]
    if word == "marked":
        return value
    if word == "filled":
        return value is not None
    if word == "least":
        return value is not None and value >= condition[2]
    if word == "most":
        return value is not None and value <= condition[2]
    if word == "said":
        return value == condition[2]
    return value == condition[1] or word == "below" and value.startswith(condition[1] + "/")


def is_true(search, item, shelves, known):
    """Tell whether a search that fits is true of an item; known keeps for each shelf what it has come to."""
    condition = search.parts
    word = condition[0]
    if word == "not":
        return not is_true(condition[1], item, shelves, known)
    if word in ROW_WORDS:
        return row_holds(word, [is_true(member, item, shelves, known) for member in condition[1:]])
    if word == "everything" or word == "nothing":
        return word == "everything"
    if word != "shelf":
        return allows(condition, item.key[item.fields.names.index(asked_field(condition))])
    # Shelves that name a shelf again and again would otherwise have it worked out each time.
    if condition[1] not in known:
        known[condition[1]] = is_true(shelves[condition[1]], item, shelves, known)
    return known[condition[1]]


def row_holds(word, truths):
    """Tell whether a row of this word is true if these are the truths of its members."""
    if word == "and":
        return all(truths)
    if word == "or":
        return any(truths)
    return truths.count(True) % 2 == 1

"""The desk: a room that is led by lines of text."""

from wishshelves.errors import NoLine, TooMany
from wishshelves.forms import deed_in, do_deed, told_by
from wishshelves.journals import read_journal
from wishshelves.looks import alike
from wishshelves.recipes import recipe
from wishshelves.texts import NONE, show_item
from wishshelves.ways import can


def say_undo(room):
    """Answer the line undo."""
    room.undo()
    return "ok"


def say_redo(room):
    """Answer the line redo."""
    room.redo()
    return "ok"


def say_item(room, number):
    """Answer a line item."""
    return show_item(room[number].item)


def say_on(room, number):
    """Answer a line on."""
    return in_a_row(room.shelves_of(number))


def say_members(room, name):
    """Answer a line members."""
    return in_a_row([str(number) for number in room.members(name)])


def say_many(room, name):
    """Answer a line many."""
    return str(room.kept().group(name).many)


def say_least(room, name):
    """Answer a line least."""
    return item_or_none(room.kept().group(name).least)


def say_apart(room, one, other):
    """Answer a line apart."""
    item = alike(room.kept(), one, other)
    return "alike" if item is None else show_item(item)


def say_can(room, one, other):
    """Answer a line can."""
    shelves = room.kept()
    found = can(shelves, shelves.group(one), shelves.group(other))
    if found[0] == "never":
        return "never"
    return " ".join([f"{len(found[2])}:", *found[2]])


def say_recipe(room, one, other):
    """Answer a line recipe."""
    shelves = room.kept()
    a, b = shelves.group(one), shelves.group(other)
    try:
        found = recipe(shelves, a, b)
    except TooMany:
        return "too many"
    return "none" if found[0] == "none" else in_a_row(found[1])


def say_lead(room, number, name):
    """Answer a line lead."""
    return item_or_none(room.lead(number, name))


def say_looked(room):
    """Answer the line looked."""
    pairs = [f"{number} {name}" for number, name in room.looked()]
    return ", ".join(pairs) if len(pairs) > 0 else NONE


def in_a_row(words):
    """Return the text of words that may be none."""
    return " ".join(words) if len(words) > 0 else NONE


def item_or_none(item):
    """Return the text of an item, or of None."""
    return NONE if item is None else show_item(item)


# What the words behind the first one are, and what answers.
QUESTIONS = {
    "undo": ((), say_undo),
    "redo": ((), say_redo),
    "item": (("number",), say_item),
    "on": (("number",), say_on),
    "members": (("name",), say_members),
    "many": (("name",), say_many),
    "least": (("name",), say_least),
    "apart": (("name", "name"), say_apart),
    "can": (("name", "name"), say_can),
    "recipe": (("name", "name"), say_recipe),
    "lead": (("number", "name"), say_lead),
    "looked": ((), say_looked),
}


class Desk:
    """A room by a journal, to which lines are said."""

    def __init__(self, text):
        self.room = read_journal(text)

    def say(self, line):
        """Do what a line tells, and return the answer."""
        if not isinstance(line, str):
            raise NoLine(line)
        question = told_by(line, QUESTIONS.get(line.partition(" ")[0]))
        if question is not None:
            return do_deed(self.room, question)
        deed = deed_in(line)
        if deed is None:
            raise NoLine(line)
        number = do_deed(self.room, deed)
        return "ok" if number is None else str(number)

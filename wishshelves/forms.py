"""The lines of deeds: of which form each is, and what it does with a room."""

from wishshelves.errors import BadItem, BadText
from wishshelves.names import is_decimal, is_name, is_path
from wishshelves.searchtexts import MOST_FIGURES, read_search
from wishshelves.texts import NONE, read_item, read_move

FIGURES_OF_A_NUMBER = 9


def add_item(room, text):
    """Do the deed of a line add; return the number of the entry."""
    return room.add(item_written(room.fields, text))


def take_out_entry(room, number):
    """Do the deed of a line take_out."""
    room.take_out(number)


def set_entry(room, number, text):
    """Do the deed of a line set."""
    entry = room[number]
    entry.give(item_written(room.fields, text))


def set_shelf(room, name, search):
    """Do the deed of a line shelf."""
    room[name] = search


def drop_shelf(room, name):
    """Do the deed of a line drop."""
    room.drop(name)


def rename_shelf(room, old, new):
    """Do the deed of a line rename."""
    room.rename(old, new)


def keep_move(room, name, move):
    """Do the deed of a line move."""
    room.set_move(name, move)


def drop_kept_move(room, name):
    """Do the deed of a line drop_move."""
    room.drop_move(name)


def watch_shelf(room, name):
    """Do the deed of a line watch."""
    room.watch(name)


def unwatch_shelf(room, name):
    """Do the deed of a line unwatch."""
    room.unwatch(name)


def make_vow(room, name, both):
    """Do the deed of a line vow."""
    room.vow(name, both[0], both[1])


def drop_vow(room, name):
    """Do the deed of a line unvow."""
    room.unvow(name)


def item_written(fields, text):
    """Return the item of some fields that is written so."""
    try:
        return read_item(fields, text)
    except BadText:
        raise BadItem(text) from None


def name_in(text):
    """Return the name that a text is, None if it is none."""
    return text if is_name(text) else None


def number_in(text):
    """Return the number that a text tells, None if it tells none."""
    return int(text) if is_decimal(text, FIGURES_OF_A_NUMBER) else None


def item_in(text):
    """Return a text that has the form of an item of some fields, None if it has not."""
    for word in text.split(" "):
        name, _, value = word.partition("=")
        if not is_name(name) or not (is_path(value) or is_decimal(value, MOST_FIGURES) or value == NONE):
            return None
    return text


def search_in(text):
    """Return the search that is written so, None if none is."""
    try:
        return read_search(text)
    except BadText:
        return None


def move_in(text):
    """Return the move that is written so, None if none is."""
    try:
        return read_move(text)
    except BadText:
        return None


def both_in(text):
    """Return the two searches that are written so, None if they are not."""
    one, _, other = text.partition(" : ")
    both = (search_in(one), search_in(other))
    return None if both[0] is None or both[1] is None else both


READERS = {"name": name_in, "number": number_in, "item": item_in, "search": search_in, "move": move_in, "both": both_in}

# What the words behind the first one are, and what is done with them.
DEEDS = {
    "add": (("item",), add_item),
    "take_out": (("number",), take_out_entry),
    "set": (("number", "item"), set_entry),
    "shelf": (("name", "search"), set_shelf),
    "drop": (("name",), drop_shelf),
    "rename": (("name", "name"), rename_shelf),
    "move": (("name", "move"), keep_move),
    "drop_move": (("name",), drop_kept_move),
    "watch": (("name",), watch_shelf),
    "unwatch": (("name",), unwatch_shelf),
    "vow": (("name", "both"), make_vow),
    "unvow": (("name",), drop_vow),
}


def deed_in(line):
    """Return (action, arguments) of the deed that a line tells, None if it tells none."""
    return told_by(line, DEEDS.get(line.partition(" ")[0]))


def told_by(line, form):
    """Return (action, arguments) of a line of this form, a pair (kinds of arguments, action); None if it is not."""
    if form is None:
        return None
    kinds, action = form
    _, blank, rest = line.partition(" ")
    if len(kinds) == 0:
        return (action, []) if blank == "" else None
    # What stands last may be of several words.
    texts = rest.split(" ", len(kinds) - 1)
    if len(texts) < len(kinds):
        return None
    arguments = []
    for kind, text in zip(kinds, texts):
        reader = READERS[kind]
        arguments.append(reader(text))
    return None if any([one is None for one in arguments]) else (action, arguments)


def do_deed(room, deed):
    """Do with a room what deed_in, or told_by, returned; return what it returns."""
    action, arguments = deed
    return action(room, *arguments)

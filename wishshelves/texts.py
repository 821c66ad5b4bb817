"""Texts of items, fields and shelves: a text is read just if something is so written."""

from wishshelves.errors import BadFields, BadLaid, BadText, ShelfError
from wishshelves.fields import Fields
from wishshelves.moves import Move
from wishshelves.names import is_decimal
from wishshelves.searches import everything
from wishshelves.searchtexts import MOST_FIGURES, read_search, show_search
from wishshelves.shelves import Shelves

NONE = "-"


def show_value(value):
    """Return the text of a value of a field."""
    if value is None:
        return NONE
    if value is True:
        return "yes"
    if value is False:
        return "no"
    return str(value)


def show_pair(name, value):
    """Return the text of the value that a field has."""
    return name + "=" + show_value(value)


def show_item(item):
    """Return the text of an item."""
    return " ".join([show_pair(name, value) for name, value in zip(item.fields.names, item.key)])


def read_item(fields, text):
    """Return the item of some fields that is written so."""
    words = text.split(" ") if isinstance(text, str) else []
    if len(words) != len(fields.names):
        raise BadText(text)
    key = []
    for name, choices, word in zip(fields.names, fields.choices, words):
        values = [value for value in choices if show_pair(name, value) == word]
        if len(values) == 0:
            raise BadText(text)
        key.append(values[0])
    return fields.item_of(tuple(key))


def show_fields(fields):
    """Return the text of fields."""
    lines = [" ".join(["folders", *fields.folders])]
    if len(fields.marks) > 0:
        lines.append(" ".join(["marks", *fields.marks]))
    for name, most in fields.numbers:
        lines.append(f"number {name} {most}")
    for name, words in fields.kinds:
        lines.append(" ".join(["kind", name, *words]))
    return "\n".join(lines)


def read_fields(text):
    """Return the fields that are written so."""
    if not isinstance(text, str):
        raise BadText(text)
    found = {"folders": [], "marks": [], "number": [], "kind": []}
    for line in text.split("\n"):
        words = line.split(" ")
        if words[0] in ("folders", "marks"):
            found[words[0]].extend(words[1:])
        elif words[0] == "number" and len(words) == 3 and is_decimal(words[2], MOST_FIGURES):
            found["number"].append((words[1], int(words[2])))
        elif words[0] == "kind" and len(words) > 2:
            found["kind"].append((words[1], tuple(words[2:])))
        else:
            raise BadText(text)
    try:
        fields = Fields(tuple(found["folders"]), marks=tuple(found["marks"]), numbers=tuple(found["number"]),
                        kinds=tuple(found["kind"]))
    except BadFields:
        raise BadText(text) from None
    # Lines in another sequence are read over, too: what was read is not written so.
    if show_fields(fields) != text:
        raise BadText(text)
    return fields


def show_list(words):
    """Return the text of a list that may be empty."""
    return ",".join(words) if len(words) > 0 else NONE


def read_list(text):
    """Return what a list is made of that is written so."""
    return () if text == NONE else tuple(text.split(","))


def show_move(move):
    """Return the text of a move."""
    sets = [show_pair(name, value) for name, value in move.sets]
    words = [show_value(move.to), show_list(move.on), show_list(move.off), show_list(sets), show_search(move.search)]
    return " ".join(words)


def read_set(text):
    """Return (name, value) of what a move sets."""
    name, _, value = text.partition("=")
    if value == NONE:
        return (name, None)
    return (name, int(value) if is_decimal(value, MOST_FIGURES) else value)


def read_move(text):
    """Return the move that is written so."""
    words = text.split(" ")
    if len(words) < 5:
        raise BadText(text)
    sets = tuple([read_set(word) for word in read_list(words[3])])
    search = read_search(" ".join(words[4:]))
    to = None if words[0] == NONE else words[0]
    try:
        move = Move(search, to=to, on=read_list(words[1]), off=read_list(words[2]), sets=sets)
    except BadLaid:
        raise BadText(text) from None
    if show_move(move) != text:
        raise BadText(text)
    return move


def show_shelves(shelves):
    """Return the text of a Shelves."""
    lines = [show_fields(shelves.fields)]
    lines.extend([" ".join(["shelf", name, show_search(shelves[name])]) for name in shelves.names])
    lines.extend([" ".join(["move", name, show_move(shelves.move(name))]) for name in shelves.move_names])
    return "\n".join(lines)


def read_shelves(text):
    """Return the Shelves that is written so."""
    if not isinstance(text, str):
        raise BadText(text)
    try:
        shelves = shelves_written(text.split("\n"))
    except ShelfError:
        raise BadText(text) from None
    if show_shelves(shelves) != text:
        raise BadText(text)
    return shelves


def shelves_written(lines):
    """Return the Shelves of these lines, shelves and moves in any sequence."""
    parts = {"shelf": [], "move": []}
    ahead = []
    for line in lines:
        word, _, rest = line.partition(" ")
        if word in parts:
            name, _, told = rest.partition(" ")
            parts[word].append((name, told))
        else:
            ahead.append(line)
    shelves = Shelves(read_fields("\n".join(ahead)))
    # Shelves may name those that stand behind them: at first all of them have to be there.
    for name, told in parts["shelf"]:
        shelves[name] = everything()
    for name, told in parts["shelf"]:
        shelves[name] = read_search(told)
    for name, told in parts["move"]:
        shelves.set_move(name, read_move(told))
    return shelves

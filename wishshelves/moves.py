"""Moves: what lays other values over the items of a search."""

from wishshelves.errors import BadLaid, BadSearch, BadValue, NoField, NoFolder, NoMark
from wishshelves.names import HIGHEST, are_names, are_pairs, firsts, is_name, is_path, is_whole, place_among
from wishshelves.searches import Search
from wishshelves.steps import Steps


class Move:
    """A move: of which items it is allowed, to which folder they go, which marks and values they have from then on."""

    def __init__(self, search, *, to=None, on=(), off=(), sets=()):
        if not isinstance(search, Search):
            raise BadSearch(search)
        if to is not None and not is_path(to):
            raise BadLaid(to)
        if not are_names(on):
            raise BadLaid(on)
        if not are_names(off) or any([name in on for name in off]):
            raise BadLaid(off)
        if not are_sets(sets):
            raise BadLaid(sets)
        self.search = search
        self.to = to
        self.on = on
        self.off = off
        self.sets = sets

    def __eq__(self, other):
        return (isinstance(other, Move) and self.search == other.search and self.to == other.to
                and self.on == other.on and self.off == other.off and self.sets == other.sets)


def after(shelves, name, group):
    """Return the group of what comes of those items of a group that a move is allowed for."""
    steps = Steps(shelves, (name,))
    return steps.group(steps.after(name, steps.node(group)))


def before(shelves, name, group):
    """Return the group of what comes into a group by a move."""
    steps = Steps(shelves, (name,))
    return steps.group(steps.before(name, steps.node(group)))


def tried(shelves, name, group):
    """Return the group of what becomes of a group if a move is tried on each of its items."""
    steps = Steps(shelves, (name,))
    return steps.group(steps.tried_on(name, steps.node(group)))


def are_sets(value):
    """Tell whether a value is a tuple of pairs of different names, and values that a number or a kind may have."""
    if not are_pairs(value) or not are_names(firsts(value)):
        return False
    return all([worth is None or is_whole(worth, 0, HIGHEST) or is_name(worth) for name, worth in value])


def check_fields_have(fields, move):
    """Raise an error for the first thing that a move lays and that is not of the fields."""
    if move.to is not None and move.to not in fields.folders:
        raise NoFolder(move.to)
    for mark in move.on + move.off:
        if mark not in fields.marks:
            raise NoMark(mark)
    for name, value in move.sets:
        if name not in fields.number_names + fields.kind_names:
            raise NoField(name)
        if place_among(fields.choices[fields.names.index(name)], value) < 0:
            raise BadValue(name, value)


def pairs_laid(fields, move):
    """Return what a move lays over an item of these fields, as pairs in the sequence of names."""
    values = {} if move.to is None else {"folder": move.to}
    for mark in move.on + move.off:
        values[mark] = mark in move.on
    for name, value in move.sets:
        values[name] = value
    return tuple([(name, values[name]) for name in fields.names if name in values])

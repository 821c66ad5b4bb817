"""Shelves: searches, and moves, that are kept under names."""

from wishshelves.errors import (
    BadMove, BadName, BadRing, BadSearch, InUse, NoMove, NoShelf, NotAllowed, OtherFields, Taken, TooLong, TooMany)
from wishshelves.moves import Move, check_fields_have, pairs_laid
from wishshelves.names import is_name
from wishshelves.searches import Search, check_fits, renamed

MOST_SHELVES = 8
MOST_MOVES = 6
MOST_CONDITIONS_OF_ALL = 60


class Shelves:
    """Searches and moves of some fields, each under its name."""

    def __init__(self, fields):
        self.fields = fields
        self.names = ()
        self.move_names = ()
        self.searches = {}
        self.moves = {}

    def __eq__(self, other):
        return (isinstance(other, Shelves) and self.fields == other.fields and self.searches == other.searches
                and self.moves == other.moves)

    def __contains__(self, x):
        return isinstance(x, str) and x in self.searches

    def __getitem__(self, at):
        if not isinstance(at, str) or at not in self.searches:
            raise NoShelf(at)
        return self.searches[at]

    def __setitem__(self, at, worth):
        if not is_name(at):
            raise BadName(at)
        if not isinstance(worth, Search):
            raise BadSearch(worth)
        check_fits(worth, self.fields, self.names + (at,))
        searches = {**self.searches, at: worth}
        check_room(searches, self.moves)
        ring = shortest_ring(searches)
        if ring is not None:
            raise BadRing(ring)
        self.settle(searches, self.moves)

    def __iter__(self):
        raise TypeError("a Shelves cannot be iterated over")

    def __ior__(self, other):
        if not isinstance(other, Shelves):
            return NotImplemented
        if other.fields != self.fields:
            raise OtherFields()
        searches = {**self.searches, **other.searches}
        moves = {**self.moves, **other.moves}
        check_room(searches, moves)
        self.settle(searches, moves)
        return self

    def settle(self, searches, moves):
        """Have these searches and moves from now on."""
        self.searches = searches
        self.moves = moves
        self.names = tuple(sorted([str(name) for name in searches]))
        self.move_names = tuple(sorted([str(name) for name in moves]))

    def copy(self):
        """Return an equal Shelves that goes its own way."""
        other = Shelves(self.fields)
        other.settle(dict(self.searches), dict(self.moves))
        return other

    def group(self, search):
        """Return the group of a search, or of the shelf of a name."""
        return self.fields.group(self[search] if isinstance(search, str) else search, self)

    def used_by(self, name):
        """Return (word, name) of all shelves and moves whose search names this shelf, ascending."""
        if name not in self:
            raise NoShelf(name)
        users = [("move", user) for user in self.move_names if name in self.moves[user].search.shelves]
        return tuple(users + [("shelf", user) for user in self.names if name in self.searches[user].shelves])

    def drop(self, name):
        """Keep this shelf no longer."""
        users = self.used_by(name)
        if users != ():
            raise InUse(users)
        self.settle({user: search for user, search in self.searches.items() if user != name}, self.moves)

    def rename(self, old, new):
        """Give a shelf another name, also in the searches of shelves and moves."""
        if old not in self:
            raise NoShelf(old)
        if not is_name(new):
            raise BadName(new)
        if new in self:
            raise Taken(new)
        searches = {}
        for name, search in self.searches.items():
            searches[new if name == old else name] = renamed(search, old, new)
        moves = {}
        for name, move in self.moves.items():
            search = renamed(move.search, old, new)
            moves[name] = Move(search, to=move.to, on=move.on, off=move.off, sets=move.sets)
        self.settle(searches, moves)

    def set_move(self, name, move):
        """Keep a move under this name from now on."""
        if not is_name(name):
            raise BadName(name)
        if not isinstance(move, Move):
            raise BadMove(move)
        check_fits(move.search, self.fields, self.names)
        check_fields_have(self.fields, move)
        moves = {**self.moves, name: move}
        check_room(self.searches, moves)
        self.settle(self.searches, moves)

    def move(self, name):
        """Return the move of this name."""
        if not isinstance(name, str) or name not in self.moves:
            raise NoMove(name)
        return self.moves[name]

    def drop_move(self, name):
        """Keep this move no longer."""
        self.move(name)
        self.settle(self.searches, {user: move for user, move in self.moves.items() if user != name})

    def laid(self, name):
        """Return what a move lays over an item, as pairs of item.laid."""
        return pairs_laid(self.fields, self.move(name))

    def moved(self, name, item):
        """Return the item behind a move."""
        search = self.move(name).search
        if not search(item, self):
            raise NotAllowed(item)
        return item.laid(self.laid(name))


def check_room(searches, moves):
    """Raise an error if these shelves or moves are too many, or their searches too long."""
    if len(searches) > MOST_SHELVES:
        raise TooMany(MOST_SHELVES)
    if len(moves) > MOST_MOVES:
        raise TooMany(MOST_MOVES)
    if sum([search.many for search in searches.values()]) > MOST_CONDITIONS_OF_ALL:
        raise TooLong(MOST_CONDITIONS_OF_ALL)


def shortest_ring(searches):
    """Return a shortest ring of these shelves, of these the least one, None if there is none."""
    found = None
    for name in sorted([str(name) for name in searches]):
        ring = ring_from(searches, name)
        if ring is not None and (found is None or len(ring) < len(found)):
            found = ring
    return found


def ring_from(searches, start):
    """Return a shortest ring that begins with a name, of these the least one, None if there is none."""
    # The paths of one length ascend: the first one that comes to a name, or back, is the least.
    paths = [(start,)]
    met = {}
    while paths:
        longer = []
        for path in paths:
            for name in searches[path[-1]].shelves:
                if name == start:
                    return path
                if name not in met:
                    met[name] = True
                    longer.append(path + (name,))
        paths = longer
    return None

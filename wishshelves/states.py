"""States: what a room holds at one moment; deeds lead from one state to another one."""

from wishshelves.groups import Group
from wishshelves.meanings import node_of
from wishshelves.stores import Store


class Senses:
    """The groups of the shelves of a Shelves that stays as it is, each worked out when it is asked for, and once."""

    def __init__(self, shelves):
        self.shelves = shelves
        self.store = Store(shelves.fields)
        self.nodes = {}
        self.groups = {}

    def group(self, name):
        """Return the group of the shelf of this name."""
        search = self.shelves[name]
        if name not in self.groups:
            node = node_of(self.store, search, self.shelves, self.nodes)
            self.groups[name] = Group(self.shelves.fields, self.store.diagram_of(node))
        return self.groups[name]


class State:
    """Shelves, items held under numbers, watches and vows. A state stays as it is as soon as a room has it.

    following is the number of the next entry. ids tells shelves apart whatever they are called, fresh is the next id.
    """

    def __init__(self, shelves):
        self.shelves = shelves
        self.senses = Senses(shelves)
        self.held = {}
        self.following = 0
        self.ids = {}
        self.fresh = 0
        self.watched = {}
        self.vows = {}

    def copy(self):
        """Return an equal state, which is there to be changed."""
        other = State(self.shelves)
        other.senses = self.senses
        other.held = dict(self.held)
        other.following = self.following
        other.ids = dict(self.ids)
        other.fresh = self.fresh
        other.watched = dict(self.watched)
        other.vows = dict(self.vows)
        return other

    def take(self, shelves):
        """Have these shelves, which stay as they are from now on."""
        self.shelves = shelves
        self.senses = Senses(shelves)

    def numbers_held(self):
        """Return the numbers of the entries, ascending."""
        return tuple(sorted([int(number) for number in self.held]))

    def vow_names(self):
        """Return the names of the vows, ascending."""
        return tuple(sorted([str(name) for name in self.vows]))

    def watched_names(self):
        """Return the names of the watched shelves, ascending."""
        return tuple([name for name in self.shelves.names if self.ids[name] in self.watched])

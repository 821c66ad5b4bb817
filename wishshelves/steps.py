"""Steps: what some moves of a Shelves do to sets of items, told by the nodes of a store."""

from wishshelves.diagrams import holds
from wishshelves.errors import NoMove, OtherFields
from wishshelves.groups import Group
from wishshelves.items import changes_laid
from wishshelves.meanings import node_of
from wishshelves.stores import Store


class Steps:
    """The moves of these names: allowed are the nodes of what each is allowed for, changes what each lays."""

    def __init__(self, shelves, names):
        self.fields = shelves.fields
        self.names = names
        self.store = Store(shelves.fields)
        self.allowed = {}
        self.changes = {}
        known = {}
        for name in names:
            move = shelves.move(name)
            self.allowed[name] = node_of(self.store, move.search, shelves, known)
            self.changes[name] = changes_laid(shelves.fields, shelves.laid(name))

    def node(self, group):
        """Return the node of a group, which has to be of the same fields."""
        if group.fields != self.fields:
            raise OtherFields()
        return self.store.taken_in(group.diagram)

    def group(self, node):
        """Return the group of a node."""
        return Group(self.fields, self.store.diagram_of(node))

    def both(self, one, other):
        """Return what is in both nodes."""
        return self.store.combined("and", one, other)

    def either(self, one, other):
        """Return what is in one of two nodes at least."""
        return self.store.combined("or", one, other)

    def without(self, one, other):
        """Return what is in one node and not in the other."""
        return self.store.combined("without", one, other)

    def after(self, name, node):
        """Return what comes, by a move, of those items of a node that it is allowed for."""
        return self.store.laid_over(self.both(node, self.allowed[name]), self.changes[name])

    def before(self, name, node):
        """Return what comes into a node by a move."""
        return self.both(self.allowed[name], self.store.laid_under(node, self.changes[name]))

    def tried_on(self, name, node):
        """Return what becomes of a node if a move is tried on each of its items."""
        return self.either(self.after(name, node), self.without(node, self.allowed[name]))

    def all_after(self, node):
        """Return what comes of a node by one move."""
        found = 0
        for name in self.names:
            found = self.either(found, self.after(name, node))
        return found

    def all_before(self, node):
        """Return what comes into a node by one move."""
        found = 0
        for name in self.names:
            found = self.either(found, self.before(name, node))
        return found

    def node_at(self, places):
        """Return the node of the one item with these places."""
        node = 1
        for field in reversed(range(len(places))):
            node = self.store.only_at(field, places[field], node)
        return node

    def places_behind(self, name, places):
        """Return the places of the item with these places behind a move, None if it is not allowed for the item."""
        if not holds((self.allowed[name], self.store.rows), places):
            return None
        found = list(places)
        for field, place in self.changes[name]:
            found[field] = place
        return tuple(found)


def chosen(shelves, only):
    """Return the names of all moves, or of these alone, ascending."""
    if only is None:
        return shelves.move_names
    if not isinstance(only, tuple):
        raise NoMove(only)
    for name in only:
        if name not in shelves.move_names or only.count(name) > 1:
            raise NoMove(name)
    return tuple([name for name in shelves.move_names if name in only])

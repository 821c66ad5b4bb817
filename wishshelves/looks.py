"""Looks at shelves: which of them mean the same, what parts them, what a search can do without."""

from wishshelves.errors import BadNames
from wishshelves.meanings import node_of
from wishshelves.names import are_names
from wishshelves.searches import ROW_WORDS, Search, check_use
from wishshelves.stores import Store


def alike(shelves, one, other):
    """Return None if two searches or shelves have the same group, otherwise the least item in just one of both."""
    group = shelves.group(one)
    return group.apart(shelves.group(other))


def same_shelves(shelves):
    """Return the names of shelves whose groups are equal, two or more each."""
    store = Store(shelves.fields)
    known = {}
    lots = {}
    for name in shelves.names:
        lots.setdefault(node_of(store, shelves[name], shelves, known), []).append(name)
    return tuple([tuple(lot) for lot in lots.values() if len(lot) > 1])


def parting(shelves, names):
    """Return None if each item is on just one of these shelves, otherwise the least other one and where it is."""
    if not are_names(names) or not all([name in shelves for name in names]):
        raise BadNames(names)
    once = shelves.fields.nothing
    more = shelves.fields.nothing
    for name in names:
        group = shelves.group(name)
        more = more | once & group
        once = once | group
    item = (more | ~once).least
    if item is None:
        return None
    return (item, tuple([name for name in shelves.names if name in names and item in shelves.group(name)]))


def spare(shelves, search):
    """Return the places of the members of a search that can be left out, each alone."""
    check_use(search, shelves.fields, shelves)
    store = Store(shelves.fields)
    known = {}
    node = node_of(store, search, shelves, known)
    places = []
    for place in places_within(search, ()):
        if node_of(store, without(search, place), shelves, known) == node:
            places.append(place)
    return tuple(places)


def places_within(search, ahead):
    """Return the places, ascending, of all members of rows in a search that stands at the place ahead."""
    word = search.parts[0]
    if word == "not":
        return places_within(search.parts[1], ahead + (0,))
    places = []
    if word in ROW_WORDS:
        for number, member in enumerate(search.parts[1:]):
            places.append(ahead + (number,))
            places.extend(places_within(member, ahead + (number,)))
    return places


def without(search, place):
    """Return what is left of a search without the member at a place."""
    word = search.parts[0]
    members = list(search.parts[1:])
    if len(place) > 1:
        members[place[0]] = without(members[place[0]], place[1:])
        return Search((word, *members))
    del members[place[0]]
    return Search((word, *members)) if len(members) > 1 else members[0]

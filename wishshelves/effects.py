"""Effects: what runs of moves lay over items, told for all items at once.

A lay is a tuple of pairs (place of the field, place of its value), in the sequence of the fields.
"""

from wishshelves.diagrams import holds
from wishshelves.errors import OtherFields, TooMany
from wishshelves.steps import Steps, chosen

MOST_LAYS = 40
# More than there are values of one field.
MANY_PLACES = 1000


def effects(shelves, *, only=None):
    """Return (laid, group) for each lay of some run, the group being all items of which some run lays just this."""
    steps = Steps(shelves, chosen(shelves, only))
    nodes = nodes_of_lays(steps)
    fields = shelves.fields
    by_code = {code_of(lay, len(fields.names)): lay for lay in nodes}
    found = []
    for code in sorted([int(one) for one in by_code]):
        lay = by_code[code]
        pairs = tuple([(fields.names[field], fields.choices[field][place]) for field, place in lay])
        found.append((pairs, steps.group(nodes[lay])))
    return tuple(found)


def alike_moves(one, other, *, only=None):
    """Return None if the moves of two Shelves lead each item to the same items, otherwise (item, goal) to show it."""
    if one.fields != other.fields:
        raise OtherFields()
    steps = Steps(one, chosen(one, only))
    other_steps = Steps(other, chosen(other, only))
    nodes = nodes_of_lays(steps)
    found = nodes_of_lays(other_steps)
    other_nodes = {lay: steps.store.taken_in(other_steps.store.diagram_of(node)) for lay, node in found.items()}
    unlike = steps.either(led_elsewhere(steps, nodes, other_nodes), led_elsewhere(steps, other_nodes, nodes))
    if unlike == 0:
        return None
    item = steps.group(unlike).least
    goals = goals_from(steps, nodes, item.places)
    other_goals = goals_from(steps, other_nodes, item.places)
    return (item, item.laid(least_in_one(one.fields, goals, other_goals)))


def code_of(lay, many):
    """Return a number for a lay over so many fields; they ascend as lays do, what is not laid being ahead."""
    places = {field: place + 1 for field, place in lay}
    code = 0
    for field in range(many):
        code = code * MANY_PLACES + places.get(field, 0)
    return code


def nodes_of_lays(steps):
    """Return for each lay of some run the node of all items of which some run lays it."""
    nodes = {(): 1}
    latest = {(): 1}
    while latest:
        came = {}
        for lay, node in latest.items():
            for name in steps.names:
                allowed = steps.both(node, steps.store.laid_under(steps.allowed[name], lay))
                longer = laid_behind(lay, steps.changes[name], len(steps.fields.names))
                fresh = steps.without(allowed, nodes.get(longer, 0))
                if fresh != 0:
                    came[longer] = steps.either(came.get(longer, 0), fresh)
        for lay, node in came.items():
            nodes[lay] = steps.either(nodes.get(lay, 0), node)
        if len(nodes) > MOST_LAYS:
            raise TooMany(MOST_LAYS)
        latest = came
    return nodes


def laid_behind(lay, changes, many):
    """Return what is laid over so many fields if changes are laid behind a lay."""
    places = dict(lay)
    for field, place in changes:
        places[field] = place
    return tuple([(field, places[field]) for field in range(many) if field in places])


def led_elsewhere(steps, nodes, other_nodes):
    """Return the items that one lot of lays leads to an item to which the other lot does not lead them."""
    found = 0
    for lay, node in nodes.items():
        left = steps.without(node, other_nodes.get(lay, 0))
        for other, there in other_nodes.items():
            if left != 0:
                left = steps.without(left, steps.both(there, same_behind(steps, lay, other)))
        found = steps.either(found, left)
    return found


def same_behind(steps, lay, other):
    """Return the node of all items that two lays make the same item of."""
    places = dict(lay)
    for field, place in other:
        if field not in places:
            places[field] = place
        elif places[field] == place:
            del places[field]
        else:
            return 0
    # What just one of both lays the items have to have already.
    node = 1
    for field in reversed(range(len(steps.fields.names))):
        if field in places:
            node = steps.store.only_at(field, places[field], node)
    return node


def goals_from(steps, nodes, places):
    """Return the places of all items to which lays lead the item with these places."""
    found = {}
    for lay, node in nodes.items():
        if holds((node, steps.store.rows), places):
            laid = dict(lay)
            found[tuple([laid.get(field, place) for field, place in enumerate(places)])] = True
    return found


def least_in_one(fields, goals, other_goals):
    """Return the pairs of all values of the least item whose places stand in just one of both."""
    best = None
    for places in [*goals, *other_goals]:
        if (places in goals) != (places in other_goals) and (best is None or places < best):
            best = places
    return tuple([(name, choices[place]) for name, choices, place in zip(fields.names, fields.choices, best)])

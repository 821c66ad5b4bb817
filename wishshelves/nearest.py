"""Nearest items: which item of a group is unlike another one in as few fields as can be."""

from wishshelves.diagrams import deepest_first, stretches
from wishshelves.errors import BadNames, OtherFields
from wishshelves.items import Item
from wishshelves.names import are_names

# More fields than items have: it cannot be done.
FAR = 1000


def nearest(item, group, *, locked=()):
    """Return the item of a group, alike in all locked fields, that is unlike an item in as few as can be, or None."""
    fields = item.fields
    if group.fields != fields:
        raise OtherFields()
    if not are_names(locked) or not all([name in fields.names for name in locked]):
        raise BadNames(locked)
    root, rows = group.diagram
    asked = [choices_at(row, fields, item.places, locked) for row in rows]
    costs = [FAR] * len(rows)
    costs[1] = 0
    for number in deepest_first(rows):
        costs[number] = cheapest(asked[number], costs)[0]
    if costs[root] >= FAR:
        return None
    places = list(item.places)
    node = root
    while node > 1:
        field = rows[node][0]
        _, place, node = cheapest(asked[node], costs)
        places[field] = place
    return Item(fields, tuple(places))


def choices_at(row, fields, places, locked):
    """Return (place, goal, cost) for the places of a row that are worth a look, from the least on."""
    field, edges = row
    if edges == ():
        return []
    found = []
    for first, end, goal in stretches(edges, fields.sizes[field]):
        # Of all places that lead to the same the item's own one costs nothing, and otherwise the first one will do.
        if first <= places[field] < end:
            found.append((places[field], goal, 0))
        elif fields.names[field] not in locked:
            found.append((first, goal, 1))
    return found


def cheapest(choices, costs):
    """Return (cost, place, goal) for the first of the choices that cost least in all."""
    best = None
    for place, goal, cost in choices:
        if best is None or cost + costs[goal] < best[0]:
            best = (cost + costs[goal], place, goal)
    return best

"""Groups: sets of items of some fields."""

from wishshelves.diagrams import holds, inverted, joined, least_of, least_pair, many_of, stretches
from wishshelves.errors import OtherFields
from wishshelves.items import Item


class Group:
    """The items of some fields that a diagram tells."""

    def __init__(self, fields, diagram):
        self.fields = fields
        self.diagram = diagram
        self.many = many_of(diagram, fields.sizes)
        self.least = item_at(fields, least_of(diagram))
        self.table = table_of(fields, diagram)

    def __eq__(self, other):
        return isinstance(other, Group) and self.fields == other.fields and self.diagram == other.diagram

    def __and__(self, other):
        if not isinstance(other, Group):
            return NotImplemented
        return made_of("and", self, other)

    def __or__(self, other):
        if not isinstance(other, Group):
            return NotImplemented
        return made_of("or", self, other)

    def __xor__(self, other):
        if not isinstance(other, Group):
            return NotImplemented
        return made_of("either", self, other)

    def __sub__(self, other):
        if not isinstance(other, Group):
            return NotImplemented
        return made_of("without", self, other)

    def __invert__(self):
        return Group(self.fields, inverted(self.diagram))

    def __le__(self, other):
        if not isinstance(other, Group):
            return NotImplemented
        return lies_within(self, other)

    def __lt__(self, other):
        if not isinstance(other, Group):
            return NotImplemented
        return lies_within(self, other) and self.diagram != other.diagram

    def __ge__(self, other):
        if not isinstance(other, Group):
            return NotImplemented
        return lies_within(other, self)

    def __gt__(self, other):
        if not isinstance(other, Group):
            return NotImplemented
        return lies_within(other, self) and self.diagram != other.diagram

    def __contains__(self, x):
        return isinstance(x, Item) and x.fields == self.fields and holds(self.diagram, x.places)

    def __bool__(self):
        return bool(self.many)

    def each(self):
        """Go through the items of the group, from the least on."""
        root, rows = self.diagram
        sizes = self.fields.sizes
        for places in places_below(rows, root, sizes, ()):
            yield Item(self.fields, places)

    def apart(self, other):
        """Return the least item that is in just one of two groups, None if they are equal."""
        return item_at(self.fields, least_of(diagram_of_both("either", self, other)))

    def matters(self):
        """Return (name, one, other) for each field that matters: the least two items that show it."""
        found = []
        for field, name in enumerate(self.fields.names):
            pair = least_pair(self.diagram, field)
            if pair is not None:
                found.append((name, item_at(self.fields, pair[0]), item_at(self.fields, pair[1])))
        return tuple(found)


def item_at(fields, places):
    """Return the item of these places, None if there are none."""
    return None if places is None else Item(fields, places)


def diagram_of_both(word, one, other):
    """Return the diagram that a word makes of two groups, which have to be of the same fields."""
    if one.fields != other.fields:
        raise OtherFields()
    return joined(one.diagram, other.diagram, word)


def made_of(word, one, other):
    """Return the group that a word makes of two groups."""
    return Group(one.fields, diagram_of_both(word, one, other))


def lies_within(one, other):
    """Tell whether each item of one group is in the other one."""
    return diagram_of_both("without", one, other)[0] == 0


def places_below(rows, node, sizes, ahead):
    """Go through the places of all items of a node that begin with those ahead."""
    field = len(ahead)
    if node != 0 and field == len(sizes):
        yield ahead
    elif node != 0:
        edges = rows[node][1] if rows[node][0] == field else ((0, node),)
        for first, end, goal in stretches(edges, sizes[field]):
            for place in range(first, end):
                told = ahead + (place,)
                yield from places_below(rows, goal, sizes, told)


def table_of(fields, diagram):
    """Return a diagram as rows of questions in the words of the fields."""
    root, rows = diagram
    if root < 2:
        return (root == 1,)
    return tuple([table_row(fields, field, edges) for field, edges in rows[2:]])


def table_row(fields, field, edges):
    """Return a row of a table: the name of the field, and (values, goal) for all that lead to the same."""
    lots = {}
    for first, end, goal in stretches(edges, fields.sizes[field]):
        lots.setdefault(goal, []).append((first, end))
    branches = [(values_of(fields, field, lot), goal - 2 if goal > 1 else goal == 1) for goal, lot in lots.items()]
    return (fields.names[field], tuple(branches))


def values_of(fields, field, lot):
    """Return the values of a field that stand at stretches (first, end) of places, as a table tells them."""
    choices = fields.choices[field]
    if fields.names[field] not in fields.number_names:
        return tuple([choices[place] for first, end in lot for place in range(first, end)])
    values = []
    for first, end in lot:
        if first == 0:
            values.append(None)
        if end > 1:
            values.append((choices[first if first > 0 else 1], choices[end - 1]))
    return tuple(values)

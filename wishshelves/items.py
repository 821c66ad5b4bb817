"""Items: a value for each field, compared field by field."""

from wishshelves.errors import BadLaid, NoField
from wishshelves.names import are_pairs, place_among


class Item:
    """An item of some fields: places tells for each field which of its choices the item has."""

    def __init__(self, fields, places):
        self.fields = fields
        self.places = places
        self.key = tuple([choices[place] for choices, place in zip(fields.choices, places)])
        self.marks = tuple([mark for mark, has in zip(fields.marks, self.key[1:]) if has])

    def __eq__(self, other):
        return isinstance(other, Item) and self.fields == other.fields and self.key == other.key

    # The values of a field stand among its choices from the least on, so that places compare as items do.
    def __lt__(self, other):
        if not isinstance(other, Item):
            return NotImplemented
        return self.places < other.places

    def __le__(self, other):
        if not isinstance(other, Item):
            return NotImplemented
        return self.places <= other.places

    def __gt__(self, other):
        if not isinstance(other, Item):
            return NotImplemented
        return self.places > other.places

    def __ge__(self, other):
        if not isinstance(other, Item):
            return NotImplemented
        return self.places >= other.places

    def __contains__(self, x):
        return x in self.marks

    def __getitem__(self, at):
        if place_among(self.fields.number_names + self.fields.kind_names, at) < 0:
            raise NoField(at)
        return self.key[place_among(self.fields.names, at)]

    def __iter__(self):
        raise TypeError("an item cannot be iterated over")

    @property
    def folder(self):
        """Return the folder of the item."""
        return self.key[0]

    def apart(self, other):
        """Return the names of the fields in which this item and another one of its fields are unlike."""
        return tuple([name for name, one, two in zip(self.fields.names, self.key, other.key) if one != two])

    def laid(self, pairs):
        """Return the item that has the values of these pairs (name, value), and all others as this one."""
        changes = changes_laid(self.fields, pairs)
        if changes is None:
            raise BadLaid(pairs)
        places = list(self.places)
        for field, place in changes:
            places[field] = place
        return Item(self.fields, tuple(places))


def changes_laid(fields, pairs):
    """Return a tuple of (place of the field, place of its value) for these pairs, None if they cannot be laid."""
    if not are_pairs(pairs):
        return None
    changes = []
    last = -1
    for name, value in pairs:
        field = place_among(fields.names, name)
        if field <= last or place_among(fields.choices[field], value) < 0:
            return None
        changes.append((field, place_among(fields.choices[field], value)))
        last = field
    return tuple(changes)

"""Entries: what a room tells of the item that one of its numbers has now, and how it gets another one."""

from wishshelves.errors import BadValue, NoEntry, NoField, NoFolder, NoMark
from wishshelves.names import place_among


class Entry:
    """The entry of a number: it reads and changes the room, and keeps nothing of it."""

    def __init__(self, room, number):
        self.room = room
        self.number = number

    def __eq__(self, other):
        return isinstance(other, Entry) and self.number == other.number and self.room == other.room

    def __contains__(self, x):
        return x in self.item

    def __getitem__(self, at):
        return self.item[at]

    def __setitem__(self, at, worth):
        item = self.item
        fields = item.fields
        if place_among(fields.number_names + fields.kind_names, at) < 0:
            raise NoField(at)
        if place_among(fields.choices[fields.names.index(at)], worth) < 0:
            raise BadValue(at, worth)
        self.give(item.laid(((at, worth),)))

    def __iter__(self):
        raise TypeError("an entry cannot be iterated over")

    @property
    def item(self):
        """Return the item that the entry has now."""
        return item_held(self.room.now.held, self.number)

    @property
    def folder(self):
        """Return the folder of the item that the entry has now."""
        return self.item.folder

    def give(self, item):
        """Give the entry another item."""
        self.room[self.number] = item

    def lay(self, path):
        """Lay the entry into another folder."""
        item = self.item
        if place_among(item.fields.folders, path) < 0:
            raise NoFolder(path)
        self.give(item.laid((("folder", path),)))

    def put(self, *marks):
        """Put these marks on the entry."""
        self.give(with_marks(self.item, marks, True))

    def drop(self, *marks):
        """Take these marks off the entry."""
        self.give(with_marks(self.item, marks, False))


def item_held(held, number):
    """Return the item that the entry of a number, of any value, has among those held."""
    # Python takes True for 1.
    if not isinstance(number, int) or isinstance(number, bool) or number not in held:
        raise NoEntry(number)
    return held[number]


def with_marks(item, marks, has):
    """Return an item that has all of these marks, or none of them."""
    known = item.fields.marks
    for mark in marks:
        if place_among(known, mark) < 0 or marks.count(mark) > 1:
            raise NoMark(mark)
    return item.laid(tuple([(mark, has) for mark in known if mark in marks]))

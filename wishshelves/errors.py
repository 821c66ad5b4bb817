"""The errors of wishshelves: all of them stand directly below ShelfError."""


class ShelfError(ValueError):
    """What all errors of wishshelves are."""


class BadFields(ShelfError):
    """An argument that no fields can have."""

    def __init__(self, value):
        self.value = value


class NoFolder(ShelfError):
    """A path that is no folder of the fields."""

    def __init__(self, value):
        self.value = value


class NoMark(ShelfError):
    """A value that is no mark of the fields, or a mark that stands twice."""

    def __init__(self, value):
        self.value = value


class NoField(ShelfError):
    """A name that no field of the needed kind has."""

    def __init__(self, value):
        self.value = value


class BadKey(ShelfError):
    """A value that is the key of no item of the fields."""

    def __init__(self, value):
        self.value = value


class BadLaid(ShelfError):
    """A value that cannot be laid over an item."""

    def __init__(self, value):
        self.value = value


class BadWord(ShelfError):
    """An argument that a condition cannot have."""

    def __init__(self, value):
        self.value = value


class BadText(ShelfError):
    """A text that is not written as it has to be."""

    def __init__(self, value):
        self.value = value


class BadName(ShelfError):
    """A value that is no name."""

    def __init__(self, value):
        self.value = value


class BadSearch(ShelfError):
    """A value that is no search."""

    def __init__(self, value):
        self.value = value


class BadMove(ShelfError):
    """A value that is no move."""

    def __init__(self, value):
        self.value = value


class BadNames(ShelfError):
    """A value that is no tuple of different known names."""

    def __init__(self, value):
        self.value = value


class BadItem(ShelfError):
    """A value that is no item of the room's fields."""

    def __init__(self, value):
        self.value = value


class BadPlace(ShelfError):
    """A value that is no place in the row of notices."""

    def __init__(self, value):
        self.value = value


class NoShelf(ShelfError):
    """A value that is the name of no shelf."""

    def __init__(self, value):
        self.value = value


class NoMove(ShelfError):
    """A value that is the name of no move."""

    def __init__(self, value):
        self.value = value


class NoEntry(ShelfError):
    """A value that is the number of no entry."""

    def __init__(self, value):
        self.value = value


class NoWatch(ShelfError):
    """A value that is the name of no watched shelf."""

    def __init__(self, value):
        self.value = value


class NoVow(ShelfError):
    """A value that is the name of no vow."""

    def __init__(self, value):
        self.value = value


class NoLine(ShelfError):
    """A value that is no line for a desk."""

    def __init__(self, value):
        self.value = value


class NotAllowed(ShelfError):
    """An item that a move is not allowed for."""

    def __init__(self, value):
        self.value = value


class Taken(ShelfError):
    """A name that is taken already."""

    def __init__(self, value):
        self.value = value


class Undone(ShelfError):
    """The error for which a batch was taken back."""

    def __init__(self, value):
        self.value = value


class BadValue(ShelfError):
    """A value that the field of this name cannot have."""

    def __init__(self, name, value):
        self.name = name
        self.value = value


class BadRing(ShelfError):
    """Shelves whose searches name one another in a ring."""

    def __init__(self, ring):
        self.ring = ring


class InUse(ShelfError):
    """What still names a shelf that was to be dropped."""

    def __init__(self, users):
        self.users = users


class Broken(ShelfError):
    """A vow that would be broken: from an item, by a run of moves."""

    def __init__(self, name, value, run):
        self.name = name
        self.value = value
        self.run = run


class TooLong(ShelfError):
    """A search, or the searches of all shelves, with too many conditions."""

    def __init__(self, most):
        self.most = most


class TooMany(ShelfError):
    """More of something than there may be."""

    def __init__(self, most):
        self.most = most


class BadLine(ShelfError):
    """The number of a line of a journal that is not right."""

    def __init__(self, number):
        self.number = number


class OtherFields(ShelfError):
    """Things of unlike fields that were put together."""


class NothingToUndo(ShelfError):
    """There is no deed that could be taken back."""


class NothingToRedo(ShelfError):
    """There is no deed that could be done again."""


class Amid(ShelfError):
    """A call that cannot stand within a batch."""

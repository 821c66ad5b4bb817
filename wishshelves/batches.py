"""Batches and trials: what stands around rows of deeds, and takes them back if they are not to stay.

What a room shall be behind the block is made ready ahead of it, so that the end of the block only hands it over.
"""

from wishshelves.differences import Change
from wishshelves.errors import Amid


class Batch:
    """The deeds of a block as one deed of a room."""

    def __init__(self, room):
        self.room = room

    def __enter__(self):
        room = self.room
        if room.amid is not None:
            raise Amid()
        change = Change(room.deeds + 1, room.now, room.now, (), True)
        self.now = room.now
        self.numbers = room.numbers
        self.watches = room.watches
        self.vows = room.vows
        self.done = room.done + (change,)
        self.undone = ()
        self.moments = room.moments + (change,)
        self.deeds = room.deeds + 1
        room.amid = change

    def __exit__(self, kind, value, trace):
        room = self.room
        room.amid = None
        if kind is None:
            room.done = self.done
            room.undone = self.undone
            room.moments = self.moments
            room.deeds = self.deeds
        if kind is not None:
            room.now = self.now
            room.numbers = self.numbers
            room.watches = self.watches
            room.vows = self.vows


class Aside:
    """Takes what a room does not have to be given back."""


class Trial:
    """A block behind which a room is as it was, unless it is kept; goal is what is given all that the room had."""

    def __init__(self, room):
        self.room = room
        self.goal = room

    def __enter__(self):
        room = self.room
        if room.amid is not None:
            raise Amid()
        self.now = room.now
        self.numbers = room.numbers
        self.watches = room.watches
        self.vows = room.vows
        self.done = room.done
        self.undone = room.undone
        self.moments = room.moments
        self.deeds = room.deeds
        return self

    def __exit__(self, kind, value, trace):
        if kind is not None:
            self.goal = self.room
        goal = self.goal
        goal.now = self.now
        goal.numbers = self.numbers
        goal.watches = self.watches
        goal.vows = self.vows
        goal.done = self.done
        goal.undone = self.undone
        goal.moments = self.moments
        goal.deeds = self.deeds

    def keep(self):
        """Have the room stay as it is behind the block, unless an error leaves it."""
        self.goal = Aside()

"""The room: entries, shelves, moves, watches and vows, and the deeds that change them."""

from wishshelves.batches import Batch, Trial
from wishshelves.differences import Change, looked_between, members_of, notices_of
from wishshelves.entries import Entry, item_held
from wishshelves.errors import (
    Amid, BadItem, BadName, BadNames, BadPlace, BadSearch, Broken, InUse, NoShelf, NothingToRedo, NothingToUndo,
    NoVow, NoWatch, ShelfError, Taken, TooMany, Undone)
from wishshelves.items import Item
from wishshelves.names import are_names, is_name, is_whole
from wishshelves.nearest import nearest
from wishshelves.searches import Search, check_fits, renamed
from wishshelves.searchtexts import show_search
from wishshelves.shelves import Shelves
from wishshelves.states import State
from wishshelves.texts import show_fields, show_item, show_move
from wishshelves.ways import can

MOST_VOWS = 4


class Room:
    """A room: now is its state, done are the deeds that stand, undone those that can be done again.

    moments are all changes that notices tell of, amid is the batch within which deeds are done.
    """

    def __init__(self, fields):
        self.fields = fields
        self.done = ()
        self.undone = ()
        self.moments = ()
        self.deeds = 0
        self.amid = None
        self.turn_to(State(Shelves(fields)))

    def __eq__(self, other):
        return (isinstance(other, Room) and self.fields == other.fields and self.now.held == other.now.held
                and self.now.shelves == other.now.shelves and self.watches == other.watches
                and self.vows == other.vows)

    def __getitem__(self, at):
        if isinstance(at, str):
            return self.now.shelves[at]
        item_held(self.now.held, at)
        return Entry(self, at)

    def __setitem__(self, at, worth):
        if isinstance(at, str):
            self.set_shelf(at, worth)
        else:
            item_held(self.now.held, at)
            self.set_item(at, worth)

    def __iter__(self):
        raise TypeError("a room cannot be iterated over")

    def kept(self):
        """Return a copy of the room's Shelves."""
        return self.now.shelves.copy()

    def journal(self):
        """Return the text of all deeds that stand."""
        lines = [show_fields(self.fields), "deeds"]
        for change in self.done:
            if change.is_batch:
                lines.append(f"batch {len(change.lines)}")
            lines.extend(change.lines)
        return "\n".join(lines)

    def copy(self):
        """Return an equal room with the same deeds that goes its own way."""
        other = Room(self.fields)
        other.done = self.done
        other.undone = self.undone
        other.deeds = self.deeds
        other.turn_to(self.now)
        return other

    def turn_to(self, state):
        """Have this state from now on."""
        self.now = state
        self.numbers = state.numbers_held()
        self.watches = state.watched_names()
        self.vows = tuple([(name,) + state.vows[name] for name in state.vow_names()])

    def record(self, state, line):
        """Have done a deed of this line: it leads to this state."""
        if self.amid is None:
            change = Change(self.deeds + 1, self.now, state, (line,), False)
            self.done = self.done + (change,)
            self.undone = ()
            self.moments = self.moments + (change,)
            self.deeds = len(self.done)
        else:
            batch = self.amid
            batch.new = state
            batch.lines = batch.lines + (line,)
        self.turn_to(state)

    def add(self, item):
        """Add an entry with this item; return its number."""
        check_item(item, self.fields)
        state = self.now.copy()
        number = state.following
        state.held[number] = item
        state.following = number + 1
        self.record(state, "add " + show_item(item))
        return number

    def take_out(self, number):
        """Take an entry out."""
        item_held(self.now.held, number)
        state = self.now.copy()
        del state.held[number]
        self.record(state, f"take_out {number}")

    def set_item(self, number, item):
        """Give the entry of this number, which is there, this item."""
        check_item(item, self.fields)
        state = self.now.copy()
        state.held[number] = item
        self.record(state, f"set {number} " + show_item(item))

    def move_entry(self, number, name):
        """Move the item of an entry."""
        item = item_held(self.now.held, number)
        self.set_item(number, self.now.shelves.moved(name, item))

    def set_shelf(self, name, search):
        """Have the shelf of this name have this search."""
        shelves = self.now.shelves.copy()
        shelves[name] = search
        check_vows(shelves, self.vows)
        state = self.now.copy()
        state.take(shelves)
        if name not in state.ids:
            state.ids[name] = state.fresh
            state.fresh += 1
        self.record(state, f"shelf {name} " + show_search(search))

    def used_by(self, name):
        """Return (word, name) of all shelves, moves and vows that name this shelf, ascending."""
        users = self.now.shelves.used_by(name)
        return users + tuple([("vow", vow) for vow, one, other in self.vows if name in one.shelves + other.shelves])

    def drop(self, name):
        """Keep this shelf no longer."""
        users = self.used_by(name)
        if users != ():
            raise InUse(users)
        shelves = self.now.shelves.copy()
        shelves.drop(name)
        state = self.now.copy()
        state.take(shelves)
        state.watched.pop(state.ids.pop(name), None)
        self.record(state, f"drop {name}")

    def rename(self, old, new):
        """Give a shelf another name, also in the searches of shelves, moves and vows."""
        shelves = self.now.shelves.copy()
        shelves.rename(old, new)
        state = self.now.copy()
        state.take(shelves)
        state.ids[new] = state.ids.pop(old)
        state.vows = {name: (renamed(one, old, new), renamed(other, old, new)) for name, one, other in self.vows}
        self.record(state, f"rename {old} {new}")

    def set_move(self, name, move):
        """Keep a move under this name from now on."""
        shelves = self.now.shelves.copy()
        shelves.set_move(name, move)
        check_vows(shelves, self.vows)
        state = self.now.copy()
        state.take(shelves)
        self.record(state, f"move {name} " + show_move(move))

    def drop_move(self, name):
        """Keep this move no longer."""
        shelves = self.now.shelves.copy()
        shelves.drop_move(name)
        state = self.now.copy()
        state.take(shelves)
        self.record(state, f"drop_move {name}")

    def watch(self, name):
        """Watch a shelf from now on."""
        self.check_shelf(name)
        if name in self.watches:
            raise Taken(name)
        state = self.now.copy()
        state.watched[state.ids[name]] = True
        self.record(state, f"watch {name}")

    def unwatch(self, name):
        """Watch a shelf no longer."""
        if name not in self.watches:
            raise NoWatch(name)
        state = self.now.copy()
        del state.watched[state.ids[name]]
        self.record(state, f"unwatch {name}")

    def vow(self, name, one, other):
        """Have no run of moves lead from one search to the other one from now on."""
        if not is_name(name):
            raise BadName(name)
        if name in self.now.vows:
            raise Taken(name)
        for search in (one, other):
            if not isinstance(search, Search):
                raise BadSearch(search)
        shelves = self.now.shelves
        for search in (one, other):
            check_fits(search, self.fields, shelves)
        if len(self.vows) >= MOST_VOWS:
            raise TooMany(MOST_VOWS)
        check_vows(shelves, ((name, one, other),))
        state = self.now.copy()
        state.vows[name] = (one, other)
        self.record(state, f"vow {name} " + show_search(one) + " : " + show_search(other))

    def unvow(self, name):
        """Have this vow stand no longer."""
        if not isinstance(name, str) or name not in self.now.vows:
            raise NoVow(name)
        state = self.now.copy()
        del state.vows[name]
        self.record(state, f"unvow {name}")

    def check_shelf(self, name):
        """Raise NoShelf if there is no shelf of this name."""
        if name not in self.now.shelves:
            raise NoShelf(name)

    def members(self, name):
        """Return the numbers of the entries that are on a shelf, ascending."""
        return members_of(self.now, name)

    def shelves_of(self, number):
        """Return the names of the shelves that an entry is on, ascending."""
        item = item_held(self.now.held, number)
        senses = self.now.senses
        return tuple([name for name in self.now.shelves.names if item in senses.group(name)])

    def looked(self):
        """Return (number, name) of all entries and shelves that the last deed had looked at anew, ascending."""
        if len(self.moments) == 0:
            return ()
        last = self.moments[-1]
        return looked_between(last.old, last.new)

    def notices(self, since=0):
        """Return the notices from this place on."""
        told = [notice for change in self.moments for notice in notices_of(change)]
        if not is_whole(since, 0, len(told)):
            raise BadPlace(since)
        return tuple(told[since:])

    def lead(self, number, into, *, out_of=None, keep=(), locked=()):
        """Return what an entry could best become to be on one shelf, not on another, and else where it is."""
        item = item_held(self.now.held, number)
        self.check_shelf(into)
        if out_of is not None:
            self.check_shelf(out_of)
        if not are_names(keep) or not all([name in self.now.shelves for name in keep]):
            raise BadNames(keep)
        senses = self.now.senses
        group = senses.group(into)
        if out_of is not None:
            group = group - senses.group(out_of)
        for name in keep:
            kept = senses.group(name)
            group = group & (kept if item in kept else ~kept)
        return nearest(item, group, locked=locked)

    def undo(self):
        """Take the last deed back that stands."""
        if self.amid is not None:
            raise Amid()
        if len(self.done) == 0:
            raise NothingToUndo()
        change = self.done[-1]
        self.done = self.done[:-1]
        self.undone = self.undone + (change,)
        self.go_over_to(change.old)

    def redo(self):
        """Do that deed again that was taken back last."""
        if self.amid is not None:
            raise Amid()
        if len(self.undone) == 0:
            raise NothingToRedo()
        change = self.undone[-1]
        self.undone = self.undone[:-1]
        self.done = self.done + (change,)
        self.go_over_to(change.new)

    def go_over_to(self, state):
        """Have this state, by what is no deed."""
        self.deeds = len(self.done)
        self.moments = self.moments + (Change(self.deeds, self.now, state, (), False),)
        self.turn_to(state)

    def batch(self):
        """Return what makes all deeds of a block one deed."""
        if self.amid is not None:
            raise Amid()
        return Batch(self)

    def batched(self, look):
        """Call look with this room, all its deeds being one deed."""
        with self.batch():
            try:
                return look(self)
            except ShelfError as error:
                raise Undone(error) from error

    def trial(self):
        """Return what takes back all that is done in a block, unless it is kept."""
        if self.amid is not None:
            raise Amid()
        return Trial(self)

    def tried(self, look, *, keep=False):
        """Call look with this room, all that it does being taken back, unless keep is True."""
        with self.trial() as trial:
            if keep is True:
                trial.keep()
            return look(self)


def check_item(value, fields):
    """Raise BadItem if a value is no item of these fields."""
    if not isinstance(value, Item) or value.fields != fields:
        raise BadItem(value)


def check_vows(shelves, vows):
    """Raise Broken for the first of these vows, (name, one, other), that some moves of a Shelves would break."""
    for name, one, other in vows:
        found = can(shelves, shelves.group(one), shelves.group(other))
        if found[0] == "run":
            raise Broken(name, found[1], found[2])

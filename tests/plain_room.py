"""A plain model of a room: lists and dicts alone, everything worked out item by item."""

from helper import Kept, all_choices, all_items, repr_of
from test_ways import Walk
from wishshelves import errors
from wishshelves.items import Item
from wishshelves.searches import everything, shelf
from wishshelves.searchtexts import show_search
from wishshelves.shelves import Shelves


def item_text(item):
    """Return the text of an item."""
    words = {None: "-", True: "yes", False: "no"}
    pairs = [(name, words[value] if value is None or isinstance(value, bool) else value)
             for name, value in zip(item.fields.names, item.key)]
    return " ".join(f"{name}={value}" for name, value in pairs)


def move_text(move):
    """Return the text of a move."""
    sets = ["{}={}".format(name, "-" if value is None else value) for name, value in move.sets]
    lists = [",".join(one) or "-" for one in (move.on, move.off, sets)]
    return " ".join([move.to or "-", *lists, show_search(move.search)])


class Refused(Exception):
    """An error that the room has to raise, by its name and its attributes."""

    def __init__(self, word, attributes=()):
        self.told = (word, dict(attributes))


def told_of(error):
    """Return (name, attributes) of an error, with the texts of what they are."""
    return (error.__class__.__name__, {name: plain(value) for name, value in vars(error).items()})


def plain(value):
    """Return a value that can be compared and shown."""
    if isinstance(value, Item):
        return value.key
    return told_of(value) if isinstance(value, errors.ShelfError) else repr(value)


class PlainRoom:
    """What a room has to tell; now is a dict that is replaced by each deed, and never changed."""

    known = {}

    def __init__(self, fields):
        self.fields = fields
        self.now = {"items": {}, "next": 0, "shelves": {}, "moves": {}, "watched": (), "vows": {}, "id": 0}
        self.done, self.undone, self.notices, self.last = [], [], [], None
        self.amid = None

    def everything_kept(self):
        """Return all that a trial gives back."""
        return (self.now, list(self.done), list(self.undone), list(self.notices), self.last)

    def give_back(self, kept):
        self.now, self.done, self.undone, self.notices, self.last = kept[0], *map(list, kept[1:4]), kept[4]

    # What it tells.

    def shelves(self, now=None):
        """Return a Shelves with the shelves and moves there are."""
        now = now or self.now
        shelves = Shelves(self.fields)
        for name in now["shelves"]:
            shelves[name] = everything()
        for name, (number, search) in now["shelves"].items():
            shelves[name] = search
        for name, move in now["moves"].items():
            shelves.set_move(name, move)
        return shelves

    def keys(self, now, name):
        """Return the keys of all items that there can be on a shelf."""
        searches = {one: search for one, (number, search) in now["shelves"].items()}
        mark = (self.fields.names, name, tuple((one, repr_of(search)) for one, search in sorted(
            searches.items(), key=lambda pair: pair[0])))
        if mark not in self.known:
            kept = Kept(self.fields, **searches)
            self.known[mark] = {item.key for item in all_items(self.fields) if shelf(name)(item, kept)}
        return self.known[mark]

    def members(self, name, now=None):
        now = now or self.now
        here = self.keys(now, name)
        return tuple(number for number, item in sorted(now["items"].items(), key=lambda pair: pair[0])
                     if item.key in here)

    def shelves_of(self, number):
        return tuple(name for name in sorted(self.now["shelves"])
                     if self.now["items"][number].key in self.keys(self.now, name))

    def watches(self):
        return tuple(sorted(name for name, (number, search) in self.now["shelves"].items()
                            if number in self.now["watched"]))

    def vows(self):
        return tuple((name, *self.now["vows"][name]) for name in sorted(self.now["vows"]))

    def looked(self):
        if self.last is None:
            return ()
        old, new = self.last
        found = []
        for number in sorted(new["items"]):
            for name in sorted(new["shelves"]):
                if self.has_to_be_looked(old, new, number, name):
                    found.append((number, name))
        return tuple(found)

    def has_to_be_looked(self, old, new, number, name):
        names = {shelf_id: one for one, (shelf_id, search) in old["shelves"].items()}
        shelf_id = new["shelves"][name][0]
        if number not in old["items"] or shelf_id not in names:
            return True
        here = self.keys(new, name)
        if self.keys(old, names[shelf_id]) != here:
            return True
        one, other = old["items"][number].key, new["items"][number].key
        return any(one[field] != other[field] and self.matters(here, field) for field in range(len(one)))

    def matters(self, here, field):
        """Tell whether a field matters to the items with these keys."""
        for item in all_items(self.fields):
            for value in all_choices(self.fields)[field]:
                if (item.key in here) != (item.key[:field] + (value,) + item.key[field + 1:] in here):
                    return True
        return False

    def journal_lines(self):
        lines = ["deeds"]
        for old, new, rows, is_batch in self.done:
            lines += [f"batch {len(rows)}"] if is_batch else []
            lines += rows
        return lines

    # What leads on.

    def came(self, old, new):
        """Note what a deed, undo or redo did."""
        names = {shelf_id: one for one, (shelf_id, search) in old["shelves"].items()}
        for name in sorted(new["shelves"]):
            shelf_id = new["shelves"][name][0]
            if shelf_id in old["watched"] and shelf_id in new["watched"]:
                there, here = self.members(names[shelf_id], old), self.members(name, new)
                for number in sorted({*there, *here}):
                    if (number in there) != (number in here):
                        self.notices.append((len(self.done), name, number, number in here))
        self.last = (old, new)

    def record(self, line, **changes):
        old, self.now = self.now, {**self.now, **changes}
        if self.amid is not None:
            self.amid.append(line)
            return
        self.done.append((old, self.now, [line], False))
        self.undone = []
        self.came(old, self.now)

    def begin(self):
        """Begin a batch; return what end and leave need."""
        self.amid = []
        return self.now

    def end(self, ahead):
        self.done.append((ahead, self.now, self.amid, True))
        self.undone, self.amid = [], None
        self.came(ahead, self.now)

    def leave(self, ahead):
        self.now, self.amid = ahead, None

    def undo(self):
        if self.amid is not None:
            raise Refused("Amid")
        if not self.done:
            raise Refused("NothingToUndo")
        deed = self.done.pop()
        self.undone.append(deed)
        old, self.now = self.now, deed[0]
        self.came(old, self.now)

    def redo(self):
        if self.amid is not None:
            raise Refused("Amid")
        if not self.undone:
            raise Refused("NothingToRedo")
        deed = self.undone.pop()
        self.done.append(deed)
        old, self.now = self.now, deed[1]
        self.came(old, self.now)

    def need_entry(self, number):
        if type(number) is not int or number not in self.now["items"]:
            raise Refused("NoEntry", {"value": plain(number)})

    def need_shelf(self, name):
        if not isinstance(name, str) or name not in self.now["shelves"]:
            raise Refused("NoShelf", {"value": plain(name)})

    def need_item(self, item):
        if not isinstance(item, Item) or item.fields != self.fields:
            raise Refused("BadItem", {"value": plain(item)})

    def need_vows(self, now, vows):
        """Refuse what would break one of these vows, by a walk over all items."""
        if vows:
            shelves = self.shelves(now)
            walk = Walk(shelves, shelves.move_names)
        for name, one, other in vows:
            start, goal = [{item.key for item in all_items(self.fields) if search(item, shelves)}
                           for search in (one, other)]
            found = walk.can(start, goal)
            if found is not None:
                raise Refused("Broken", {"name": plain(name), "value": found[1], "run": plain(found[0])})

    def as_shelves(self, look):
        """Do with a Shelves what look does; return the Shelves."""
        shelves = self.shelves()
        try:
            look(shelves)
        except errors.ShelfError as error:
            raise Refused(*told_of(error)) from error
        return shelves

    # Deeds.

    def add(self, item):
        self.need_item(item)
        number = self.now["next"]
        self.record("add " + item_text(item), items={**self.now["items"], number: item}, next=number + 1)
        return number

    def take_out(self, number):
        self.need_entry(number)
        items = {one: item for one, item in self.now["items"].items() if one != number}
        self.record(f"take_out {number}", items=items)

    def give(self, number, item):
        self.need_entry(number)
        self.need_item(item)
        self.record(f"set {number} {item_text(item)}", items={**self.now["items"], number: item})

    def move_entry(self, number, name):
        self.need_entry(number)
        found = []
        self.as_shelves(lambda shelves: found.append(shelves.moved(name, self.now["items"][number])))
        self.give(number, found[0])

    def set_shelf(self, name, search):
        def look(shelves):
            shelves[name] = search
        self.as_shelves(look)
        fresh = name not in self.now["shelves"]
        shelf_id = self.now["id"] if fresh else self.now["shelves"][name][0]
        changes = {"shelves": {**self.now["shelves"], name: (shelf_id, search)}, "id": self.now["id"] + fresh}
        self.need_vows({**self.now, **changes}, self.vows())
        self.record(f"shelf {name} {show_search(search)}", **changes)

    def users(self, name):
        self.need_shelf(name)
        return self.shelves().used_by(name) + tuple(
            ("vow", vow) for vow, one, other in self.vows() if name in one.shelves or name in other.shelves)

    def drop(self, name):
        users = self.users(name)
        if users:
            raise Refused("InUse", {"users": plain(users)})
        watched = tuple(one for one in self.now["watched"] if one != self.now["shelves"][name][0])
        shelves = {one: kept for one, kept in self.now["shelves"].items() if one != name}
        self.record(f"drop {name}", shelves=shelves, watched=watched)

    def rename(self, old, new):
        after = self.as_shelves(lambda shelves: shelves.rename(old, new))
        shelves = {}
        for name, (shelf_id, search) in self.now["shelves"].items():
            name = new if name == old else name
            shelves[name] = (shelf_id, after[name])
        moves = {name: after.move(name) for name in after.move_names}
        vows = {name: (renamed_by(one, old, new), renamed_by(other, old, new)) for name, one, other in self.vows()}
        self.record(f"rename {old} {new}", shelves=shelves, moves=moves, vows=vows)

    def set_move(self, name, move):
        self.as_shelves(lambda shelves: shelves.set_move(name, move))
        changes = {"moves": {**self.now["moves"], name: move}}
        self.need_vows({**self.now, **changes}, self.vows())
        self.record(f"move {name} {move_text(move)}", **changes)

    def drop_move(self, name):
        self.as_shelves(lambda shelves: shelves.drop_move(name))
        self.record(f"drop_move {name}", moves={one: move for one, move in self.now["moves"].items() if one != name})

    def watch(self, name):
        self.need_shelf(name)
        if name in self.watches():
            raise Refused("Taken", {"value": plain(name)})
        self.record(f"watch {name}", watched=self.now["watched"] + (self.now["shelves"][name][0],))

    def unwatch(self, name):
        if name not in self.watches():
            raise Refused("NoWatch", {"value": plain(name)})
        gone = self.now["shelves"][name][0]
        self.record(f"unwatch {name}", watched=tuple(one for one in self.now["watched"] if one != gone))

    def vow(self, name, one, other):
        if name in self.now["vows"]:
            raise Refused("Taken", {"value": plain(name)})
        for search in (one, other):
            self.as_shelves(lambda shelves: shelves.group(search))
        if len(self.now["vows"]) == 4:
            raise Refused("TooMany", {"most": plain(4)})
        self.need_vows(self.now, ((name, one, other),))
        self.record(f"vow {name} {show_search(one)} : {show_search(other)}",
                    vows={**self.now["vows"], name: (one, other)})

    def unvow(self, name):
        if name not in self.now["vows"]:
            raise Refused("NoVow", {"value": plain(name)})
        self.record(f"unvow {name}", vows={one: vow for one, vow in self.now["vows"].items() if one != name})


def renamed_by(search, old, new):
    """Return a search in which each shelf of one name has another one, put together anew."""
    if search.parts[0] == "shelf":
        return shelf(new) if search.parts[1] == old else search
    if search.parts[0] not in ("not", "and", "or", "either"):
        return search
    members = [renamed_by(member, old, new) for member in search.parts[1:]]
    if search.parts[0] == "not":
        return ~members[0]
    found = members[0]
    for member in members[1:]:
        found = {"and": found & member, "or": found | member, "either": found ^ member}[search.parts[0]]
    return found

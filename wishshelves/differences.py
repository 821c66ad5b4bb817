"""Differences: what became other from one state of a room to another one."""


class Change:
    """A deed, or what undo or redo did: it led from the state old to the state new.

    number is how many deeds stand behind it, lines are those of a journal, a batch has the lines of all its deeds.
    """

    def __init__(self, number, old, new, lines, is_batch):
        self.number = number
        self.old = old
        self.new = new
        self.lines = lines
        self.is_batch = is_batch
        self.told = None


def notices_of(change):
    """Return the notices of a change, worked out but once."""
    if change.told is None:
        change.told = notices_between(change.number, change.old, change.new)
    return change.told


def notices_between(number, old, new):
    """Return the notices that a change with this number gives, ascending."""
    old_names = names_by_id(old)
    found = []
    for name in new.watched_names():
        shelf_id = new.ids[name]
        if shelf_id in old.watched:
            here = members_of(new, name)
            there = members_of(old, old_names[shelf_id])
            for entry in sorted(set([int(one) for one in here + there])):
                if (entry in here) != (entry in there):
                    found.append((number, name, entry, entry in here))
    return tuple(found)


def names_by_id(state):
    """Return the name of each shelf by its id."""
    return {shelf_id: name for name, shelf_id in state.ids.items()}


def members_of(state, name):
    """Return the ascending numbers of the entries on a shelf."""
    group = state.senses.group(name)
    return tuple([number for number in state.numbers_held() if state.held[number] in group])


def looked_between(old, new):
    """Return (number, name) for all entries and shelves that have to be looked at anew, ascending."""
    fields_of = {name: fields_to_look_at(old, new, name) for name in new.shelves.names}
    found = []
    for number in new.numbers_held():
        # None for an entry that was not there: all shelves are looked at.
        unlike = new.held[number].apart(old.held[number]) if number in old.held else None
        for name in new.shelves.names:
            asked = fields_of[name]
            if unlike is None or asked is None or any([one in asked for one in unlike]):
                found.append((number, name))
    return tuple(found)


def fields_to_look_at(old, new, name):
    """Return the names of the fields that matter to a shelf, None if all entries have to be looked at anew for it."""
    old_names = names_by_id(old)
    shelf_id = new.ids[name]
    group = new.senses.group(name)
    if shelf_id not in old_names or old.senses.group(old_names[shelf_id]) != group:
        return None
    # A diagram asks just the fields that matter.
    return [group.fields.names[field] for field, edges in group.diagram[1][2:]]

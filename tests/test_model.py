"""Sections 15 to 20: a room held against a plain model of it, over long rows of drawn deeds."""

import random
import unittest

from helper import FIELDS, SMALL, all_items, any_values, conditions_for, one_search, repr_of
from plain_room import PlainRoom, Refused, told_of
from wishshelves.errors import ShelfError, Undone
from wishshelves.journals import read_journal
from wishshelves.moves import Move
from wishshelves.room import Room
from wishshelves.searches import at
from wishshelves.texts import show_fields

NAMES = ("a", "b", "c", "d", "e")
DEEDS = (
    ["add"] * 6 + ["give"] * 6 + ["set_shelf"] * 4 + ["take_out", "move_entry", "move_entry", "drop", "rename"]
    + ["set_move", "drop_move", "watch", "watch", "unwatch", "vow", "unvow"])


class Left(Exception):
    """An error of its own that leaves a block."""


class Play:
    """A room and its model, to which the same is done."""

    def __init__(self, case, fields, seed):
        self.case, self.fields = case, fields
        self.chance = random.Random(seed)
        self.items = all_items(fields)
        self.room, self.model = Room(fields), PlainRoom(fields)
        self.refused = set()

    # What is drawn.

    def number(self):
        numbers = [*self.model.now["items"], self.model.now["next"], 0]
        return self.chance.choice(numbers)

    def item(self):
        return self.chance.choice(self.items)

    def search(self):
        conditions = conditions_for(self.fields, tuple(self.model.now["shelves"]))
        return one_search(self.chance, conditions, self.chance.choice((1, 1, 2, 3)))

    def move(self):
        marks = [mark for mark in self.fields.marks if self.chance.random() < 0.4]
        cut = self.chance.randrange(len(marks) + 1)
        sets = tuple((name, self.chance.choice((None, words[0]))) for name, words in self.fields.kinds
                     if self.chance.random() < 0.3)
        return Move(self.search(), to=self.chance.choice((None, *self.fields.folders)), on=tuple(marks[:cut]),
                    off=tuple(marks[cut:]), sets=sets)

    def deed(self):
        """Return a deed that was drawn: a word and arguments."""
        chance = self.chance
        word = chance.choice(DEEDS)
        name = chance.choice(NAMES)
        if chance.random() < 0.03:
            return self.wrong(word, chance.choice(any_values()))
        if word == "give":
            return (word, self.number(), self.item())
        made = {
            "add": lambda: (self.item(),), "take_out": lambda: (self.number(),),
            "move_entry": lambda: (self.number(), chance.choice("pqr")),
            "set_shelf": lambda: (name, self.search()), "rename": lambda: (name, chance.choice(NAMES)),
            "set_move": lambda: (chance.choice("pqr"), self.move()), "drop_move": lambda: (chance.choice("pqr"),),
            "vow": lambda: (chance.choice("uvwxyz"), self.search() & self.search(), self.search() & self.search()),
            "unvow": lambda: (chance.choice("uvwxyz"),)}
        return (word, *made.get(word, lambda: (name,))())

    def wrong(self, word, value):
        """Return a deed that is surely wrong, by any value."""
        if word in ("add", "take_out"):
            return (word, value)
        if word in ("give", "move_entry"):
            return (word, value, self.item() if word == "give" else "p")
        return ("drop", value)

    # What is done with both.

    def on_room(self, room, deed):
        word, *arguments = deed
        if word in ("give", "set_shelf"):
            room[arguments[0]] = arguments[1]
            return None
        return getattr(room, word)(*arguments)

    def outcome(self, call):
        try:
            return ("told", call())
        except Refused as error:
            return error.told
        except ShelfError as error:
            return told_of(error)

    def both(self, deed, room=None):
        """Do a deed with the room and with the model; return what came of it."""
        if deed[0] == "give" and isinstance(deed[1], str):
            return None
        word, *arguments = deed
        told = self.outcome(lambda: self.on_room(room or self.room, deed))
        self.case.assertEqual(told, self.outcome(lambda: getattr(self.model, word)(*arguments)), deed)
        self.refused.add(told[0])
        return told

    def compare(self):
        """Hold all that the room tells against the model."""
        room, model, case = self.room, self.model, self.case
        case.assertEqual(room.numbers, tuple(sorted(model.now["items"])))
        case.assertEqual([room[number].item.key for number in room.numbers],
                         [model.now["items"][number].key for number in room.numbers])
        case.assertEqual(room.watches, model.watches())
        case.assertEqual([(name, repr_of(one), repr_of(other)) for name, one, other in room.vows],
                         [(name, repr_of(one), repr_of(other)) for name, one, other in model.vows()])
        case.assertTrue(room.kept() == model.shelves())
        case.assertEqual(sorted(model.now["shelves"]), list(room.kept().names))
        for name in model.now["shelves"]:
            case.assertEqual(room.members(name), model.members(name))
            case.assertEqual(room.used_by(name), model.users(name))
        for number in room.numbers:
            case.assertEqual(room.shelves_of(number), model.shelves_of(number))
        case.assertEqual(room.deeds, len(model.done))
        case.assertEqual(room.looked(), model.looked())
        case.assertEqual(room.notices(), tuple(model.notices))
        case.assertEqual(room.journal(), "\n".join([show_fields(self.fields), *model.journal_lines()]))

    def play(self, many, depth=0):
        """Do so many things."""
        for number in range(many):
            draw = self.chance.random()
            if draw < 0.72:
                self.both(self.deed())
            elif draw < 0.87:
                self.both((self.chance.choice(("undo", "undo", "redo")),))
            elif draw < 0.92:
                self.batch()
            elif draw < 0.95:
                self.batched()
            elif draw < 0.97 and depth < 3:
                self.trial(depth)
            elif draw < 0.985 and depth == 0:
                self.copies()
            else:
                self.journals()
            self.compare()

    def batch(self):
        ahead = self.model.begin()
        leaves = self.chance.random() < 0.3
        try:
            with self.room.batch():
                self.deeds_within(leaves)
        except Left:
            self.model.leave(ahead)
        else:
            self.model.end(ahead)

    def batched(self):
        """A batch that the first error leaves."""
        ahead = self.model.begin()
        deeds = [self.deed() for number in range(self.chance.randrange(5))]
        self.case.assertEqual(self.model.now, ahead)
        try:
            found = self.room.batched(lambda room: [self.until_refused(room, deed) for deed in deeds])
            self.case.assertEqual(len(found), len(deeds))
        except Undone as error:
            self.case.assertEqual(told_of(error.value)[0], error.value.__class__.__name__)
            self.case.assertIs(error.__cause__, error.value)
            self.model.leave(ahead)
        else:
            self.model.end(ahead)

    def until_refused(self, room, deed):
        self.case.assertIs(room, self.room)
        told = self.both(deed, room)
        if told is not None and told[0] != "told":
            self.on_room(room, deed)

    def deeds_within(self, leaves):
        for number in range(self.chance.randrange(6)):
            self.both(self.deed() if self.chance.random() < 0.9 else (self.chance.choice(("undo", "redo")),))
            self.compare()
        if leaves:
            raise Left()

    def trial(self, depth):
        kept = self.model.everything_kept()
        leaves, keeps = self.chance.random() < 0.2, self.chance.random() < 0.5
        try:
            with self.room.trial() as trial:
                if keeps and self.chance.random() < 0.5:
                    trial.keep()
                self.play(self.chance.randrange(12), depth + 1)
                if keeps:
                    trial.keep()
                if leaves:
                    raise Left()
        except Left:
            pass
        if leaves or not keeps:
            self.model.give_back(kept)

    def copies(self):
        """Go on with a copy: it goes its own way, has the same deeds, and no notices."""
        old = self.room
        told = (old.journal(), old.notices(), old.looked(), old.numbers)
        self.room = old.copy()
        self.case.assertTrue(self.room == old)
        self.model.notices, self.model.last = [], None
        self.compare()
        for number in range(3):
            self.both(self.deed())
        self.both(("undo",))
        self.case.assertEqual((old.journal(), old.notices(), old.looked(), old.numbers), told)

    def journals(self):
        """A room by the journal is equal, and its deeds can be taken back."""
        other = read_journal(self.room.journal())
        self.case.assertEqual(other.journal(), self.room.journal())
        self.case.assertTrue(other == self.room)
        self.case.assertEqual(other.deeds, self.room.deeds)
        for room in (other, self.room.copy()):
            while room.deeds:
                room.undo()
            self.case.assertTrue(room == Room(self.fields))
        self.case.assertEqual(other.add(self.items[0]), 0)


class ModelTest(unittest.TestCase):
    def play(self, fields, seed, many):
        play = Play(self, fields, seed)
        play.play(many)
        return play

    def test_long_rows_of_deeds(self):
        refused = set()
        for seed in range(10):
            refused |= self.play(FIELDS if seed % 2 else SMALL, seed, 150).refused
        self.assertTrue(refused >= {
            "told", "NoEntry", "BadItem", "NoShelf", "NoMove", "NotAllowed", "BadRing", "InUse", "Taken", "NoWatch",
            "NoVow", "Broken", "NothingToUndo", "NothingToRedo", "Amid"}, refused)

    def test_an_empty_room(self):
        play = Play(self, FIELDS, 0)
        play.compare()
        play.both(("undo",))
        play.both(("redo",))
        play.both(("set_shelf", "a", at("in")))
        play.compare()


if __name__ == "__main__":
    unittest.main()

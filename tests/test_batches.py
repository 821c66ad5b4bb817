"""Section 19: undo and redo, batches, trials."""

import unittest

from helper import FIELDS, any_values
from test_room import RoomCase, example, fuller, told
from wishshelves.errors import (
    Amid, BadItem, Broken, NoEntry, NoShelf, NothingToRedo, NothingToUndo, ShelfError, Undone)
from wishshelves.moves import Move
from wishshelves.room import Room
from wishshelves.searches import at, below, everything, marked, nothing


class Left(Exception):
    """An error that is none of the program's own."""


def in_a_row(room, *rows):
    """Do several deeds, each a name of a method and its arguments."""
    for name, *arguments in rows:
        getattr(room, name)(*arguments)


class UndoTest(RoomCase):
    def test_each_deed_is_taken_back_and_done_again(self):
        room = Room(FIELDS)
        states = [told_now(room)]
        for change in (
                lambda: room.add(FIELDS.made("in", "red", size=2)), lambda: room.add(FIELDS.made("out")),
                lambda: room.__setitem__("new", below("in")), lambda: room.watch("new"),
                lambda: room.set_move("file", Move(at("in") & marked("red"), to="out")),
                lambda: room.move_entry(0, "file"), lambda: room.rename("new", "old"),
                lambda: room.vow("kept", at("in/new") & "old", at("out")), lambda: room[1].lay("in"),
                lambda: room[1].put("red"), lambda: room[1].__setitem__("kind", "note"), lambda: room.take_out(0),
                lambda: room.unvow("kept"), lambda: room.unwatch("old"), lambda: room.drop("old"),
                lambda: room.drop_move("file"), lambda: room.__setitem__(1, FIELDS.made("in/new")),
                lambda: room[1].give(FIELDS.made("out")), lambda: room[1].drop()):
            change()
            states.append(told_now(room))
        self.assertEqual(room.deeds, 19)
        for state in reversed(states[:-1]):
            self.assertIsNone(room.undo())
            self.assertEqual(told_now(room), state)
        self.refused(NothingToUndo, {}, room, room.undo)
        for state in states[1:]:
            self.assertIsNone(room.redo())
            self.assertEqual(told_now(room), state)
        self.refused(NothingToRedo, {}, room, room.redo)

    def test_another_deed_ends_what_can_be_done_again(self):
        room = example()
        room.undo()
        room.undo()
        room.redo()
        room[0].put()
        self.refused(NothingToRedo, {}, room, room.redo)
        room.undo()
        room.redo()
        self.assertEqual(room.deeds, 5)

    def test_refused_calls_leave_what_can_be_done_again(self):
        room = example()
        room.undo()
        for call in (lambda: room.add(None), lambda: room.drop("zzz"), lambda: room[0].lay("zzz"),
                     lambda: room.watch("zzz"), lambda: room.batched(lambda here: here.take_out(7))):
            self.assertRaises(ShelfError, call)
        room.redo()
        self.assertEqual(room[1].folder, "out")

    def test_the_next_number_goes_along(self):
        room = Room(FIELDS)
        for number in range(3):
            room.add(FIELDS.made("in"))
        room.undo()
        room.undo()
        self.assertEqual(room.add(FIELDS.made("out")), 1)
        room.undo()
        room.add(FIELDS.made("in"))
        room.take_out(1)
        self.assertEqual((room.add(FIELDS.made("in")), room.numbers), (2, (0, 2)))
        room.undo()
        room.undo()
        self.assertEqual((room.add(FIELDS.made("in")), room.numbers), (2, (0, 1, 2)))

    def test_they_are_no_deeds(self):
        room = example()
        lines = room.journal()
        room.undo()
        self.assertEqual((room.deeds, room.journal()), (4, lines.rpartition("\n")[0]))
        room.redo()
        self.assertEqual((room.deeds, room.journal()), (5, lines))

    def test_entries_read_what_is_there_now(self):
        room = example()
        entry = room[1]
        room.undo()
        self.assertEqual(entry.folder, "in/new")
        for number in range(3):
            room.undo()
        self.refused(NoEntry, {"value": 1}, room, lambda: entry.item)


def told_now(room):
    """Return what a room tells by its state alone."""
    kept = room.kept()
    return (room.numbers, [room[number].item.key for number in room.numbers], room.deeds, room.watches, len(room.vows),
            kept.names, kept.move_names, [room.members(name) for name in kept.names], room.journal())


class BatchTest(RoomCase):
    def test_the_example_of_the_document(self):
        room = example()
        room.watch("new")
        before_it = room.deeds
        found = room.batched(
            lambda here: [here[0].put("red"), here[0].drop("red"), here.add(FIELDS.made("in"))][2])
        self.assertEqual([found, room.deeds - before_it, room.notices(), room.looked()],
                         [2, 1, ((7, "new", 2, True),), ((2, "new"),)])
        self.assertEqual([room.undo(), room.numbers, room.notices(1)], [None, (0, 1), ((6, "new", 2, False),)])

    def test_one_deed(self):
        room = example()
        with room.batch():
            number = room.add(FIELDS.made("in"))
            room[number].put("red")
            room["red"] = marked("red")
            room.watch("red")
        self.assertEqual((room.deeds, room.numbers, room.members("red")), (6, (0, 1, 2), (2,)))
        room.undo()
        self.assertEqual((room.deeds, room.numbers, room.kept().names), (5, (0, 1), ("new",)))
        room.redo()
        self.assertEqual((room.deeds, room.members("red"), room.watches), (6, (2,), ("red",)))

    def test_a_batch_without_deeds(self):
        room = example()
        with room.batch():
            pass
        self.assertEqual((room.deeds, room.looked(), room.journal().split("\n")[-1]), (6, (), "batch 0"))
        self.assertIsNone(room.batched(lambda here: None))
        self.assertEqual(room.deeds, 7)
        room.undo()
        room.undo()
        self.assertEqual(room.deeds, 5)
        with room.batch():
            pass
        self.refused(NothingToRedo, {}, room, room.redo)

    def test_what_is_told_within_it(self):
        room = fuller()
        ahead = (room.deeds, room.looked(), room.notices(), room.journal())
        with room.batch():
            for change, here in (
                    (lambda: room[0].lay("out"), lambda: room.members("new") == (2,)),
                    (lambda: room.add(FIELDS.made("in")), lambda: room.numbers == (0, 1, 2, 3)),
                    (lambda: room.rename("new", "old"), lambda: room.watches == ("old",)),
                    (lambda: room.unvow("kept"), lambda: room.vows == ()),
                    (lambda: room.drop_move("tag"), lambda: room.kept().move_names == ("file",)),
                    (lambda: room[3].put("red"), lambda: room.shelves_of(3) == ()),
                    (lambda: room.__setitem__("x", at("in")), lambda: room["x"] == at("in"))):
                change()
                self.assertTrue(here())
                self.assertEqual((room.deeds, room.looked(), room.notices(), room.journal()), ahead)
        self.assertEqual((room.deeds, room.looked()), (ahead[0] + 1, (
            (0, "big"), (0, "old"), (0, "x"), (1, "x"), (2, "x"), (3, "big"), (3, "old"), (3, "x"))))
        self.assertEqual(room.notices(), ahead[2] + ((room.deeds, "old", 0, False),))
        self.assertEqual(room.journal().split("\n")[-8:], [
            "batch 7", "set 0 folder=out red=no size=2 kind=-", "add folder=in red=no size=- kind=-", "rename new old",
            "unvow kept", "drop_move tag", "set 3 folder=in red=yes size=- kind=-", "shelf x in in"])

    def test_undo_and_redo_within_it(self):
        room = fuller()
        for ahead in (lambda: None, lambda: room.add(FIELDS.made("in"))):
            with room.batch():
                ahead()
                self.refused(Amid, {}, room, room.undo)
                self.refused(Amid, {}, room, room.redo)
        empty = Room(FIELDS)
        with empty.batch():
            self.refused(Amid, {}, empty, empty.undo)
            self.refused(Amid, {}, empty, empty.redo)

    def test_an_error_leaves_it(self):
        for error in (Left, KeyError, ShelfError, KeyboardInterrupt):
            room = fuller()
            before, undone = told(room), room.undone
            with self.assertRaises(error):
                with room.batch():
                    room[0].lay("out")
                    room.add(FIELDS.made("in"))
                    room["x"] = at("in")
                    room.unwatch("new")
                    room.unvow("kept")
                    raise error()
            self.assertEqual((told(room), room.watches, len(room.vows)), (before, ("new",), 1))
            self.assertEqual(len(undone), 1)
            room.redo()
            self.assertEqual((room[2].folder, room.add(FIELDS.made("in"))), ("out", 3))

    def test_an_error_that_is_caught_within_it(self):
        room = example()
        with room.batch():
            room.add(FIELDS.made("in"))
            self.assertRaises(NoEntry, room.take_out, 7)
            self.assertRaises(NoShelf, room.drop, "zzz")
            room[2].put("red")
        self.assertEqual((room.deeds, room[2].item.key), (6, ("in", True, None, None)))
        self.assertEqual(room.journal().split("\n")[-3], "batch 2")

    def test_a_batch_within_a_batch(self):
        room = example()
        made = room.batch()
        with room.batch():
            self.refused(Amid, {}, room, room.batch)
            self.refused(Amid, {}, room, room.trial)
            self.refused(Amid, {}, room, made.__enter__)
            self.refused(Amid, {}, room, lambda: room.batched(lambda here: here.add(None)))
            self.refused(Amid, {}, room, lambda: room.tried(lambda here: here.add(None)))
            room.add(FIELDS.made("in"))
        self.assertEqual((room.deeds, room.numbers), (6, (0, 1, 2)))
        with made:
            room.take_out(2)
        self.assertEqual((room.deeds, room.numbers), (7, (0, 1)))
        with self.assertRaises(Amid):
            with room.batch():
                room.take_out(0)
                with room.batch():
                    pass
        self.assertEqual((room.deeds, room.numbers), (7, (0, 1)))
        trial = room.trial()
        with room.batch():
            self.refused(Amid, {}, room, trial.__enter__)
        with trial:
            room.take_out(0)
        self.assertEqual(room.numbers, (0, 1))

    def test_leaving_it_by_return(self):
        room = example()

        def look():
            with room.batch():
                room.add(FIELDS.made("in"))
                return room.numbers
        self.assertEqual((look(), room.deeds), ((0, 1, 2), 6))

    def test_another_room_is_not_within_it(self):
        room, other = example(), example()
        with room.batch():
            with other.batch():
                other.take_out(0)
            other.undo()
            same = room.copy()
            same.take_out(1)
            same.undo()
            with same.trial():
                same.add(FIELDS.made("in"))
        self.assertTrue(other == example() and room == example() and same == room)


class BatchedTest(RoomCase):
    def test_what_it_returns(self):
        room = example()
        values = []
        for value in any_values():
            self.assertIs(room.batched(lambda here: value), value)
        self.assertIsNone(room.batched(look=lambda here: values.append(here)))
        self.assertIs(values[0], room)
        self.assertEqual(room.deeds, 6 + len(any_values()))

    def test_undone(self):
        room = fuller()

        def look(here):
            here[0].lay("out")
            here.add(FIELDS.made("in"))
            here.take_out(9)
        before = told(room)
        with self.assertRaises(Undone) as caught:
            room.batched(look)
        self.assertIsInstance(caught.exception.value, NoEntry)
        self.assertEqual(caught.exception.value.value, 9)
        self.assertIs(caught.exception.__cause__, caught.exception.value)
        self.assertEqual(told(room), before)
        room.redo()

    def test_each_shelf_error(self):
        room = fuller()
        for look, error in (
                (lambda here: here.add(None), BadItem), (lambda here: here.undo(), Amid),
                (lambda here: here.batched(None), Amid),
                (lambda here: here.__setitem__("new", everything()) or here.set_move(
                    "x", Move(everything(), to="out")), Broken)):
            before = told(room)
            with self.assertRaises(Undone) as caught:
                room.batched(look)
            self.assertIs(caught.exception.value.__class__, error)
            self.assertEqual(told(room), before)

    def test_other_errors_go_on(self):
        room = fuller()
        before = told(room)
        for error in (Left, ValueError, KeyError, ZeroDivisionError):
            def look(here):
                here.take_out(0)
                raise error()
            with self.assertRaises(error) as caught:
                room.batched(look)
            self.assertNotIsInstance(caught.exception, Undone)
            self.assertEqual(told(room), before)
        self.assertRaises(TypeError, room.batched, None)
        self.assertEqual(told(room), before)


class TrialTest(RoomCase):
    def changes(self, room):
        """Change all that a room has."""
        room.undo()
        room.undo()
        room.add(FIELDS.made("in"))
        room["x"] = at("in")
        room["new"] = at("in/new")
        room.watch("x")
        room.vow("far", nothing(), nothing())
        room.set_move("file", Move(nothing()))
        room.take_out(0)
        with room.batch():
            room[1].put("red")
            room.drop("x")
        room.undo()
        room.unwatch("x")
        return room.numbers

    def test_a_trial_that_is_not_kept(self):
        for leaves in (False, True):
            room = fuller()
            before, undone = told(room), len(room.undone)
            try:
                with room.trial() as trial:
                    self.assertTrue(hasattr(trial, "keep"))
                    self.changes(room)
                    self.assertNotEqual(told(room), before)
                    if leaves:
                        raise Left()
            except Left:
                self.assertTrue(leaves)
            self.assertEqual((told(room), len(room.undone)), (before, undone))
            room.redo()
            self.assertEqual((room[2].folder, room.add(FIELDS.made("in"))), ("out", 3))

    def test_a_trial_that_is_kept(self):
        for place in (0, 1):
            room, other = fuller(), fuller()
            with room.trial() as trial:
                if place == 0:
                    self.assertIsNone(trial.keep())
                self.changes(room)
                if place == 1:
                    trial.keep()
                    trial.keep()
            self.changes(other)
            self.assertEqual(told(room), told(other))
            self.assertTrue(room == other)
            for call in ("undo", "undo", "redo", "redo"):
                getattr(room, call)()
                getattr(other, call)()
                self.assertEqual(told(room), told(other))
            self.assertRaises(NothingToRedo, room.redo)

    def test_an_error_leaves_a_trial_that_is_kept(self):
        room = fuller()
        before = told(room)
        for error in (Left, ShelfError, KeyboardInterrupt):
            with self.assertRaises(error):
                with room.trial() as trial:
                    self.changes(room)
                    trial.keep()
                    raise error()
            self.assertEqual(told(room), before)

    def test_what_was_taken_back_in_a_trial_that_is_kept(self):
        room = example()
        with room.trial() as trial:
            room.undo()
            room.undo()
            trial.keep()
        self.assertEqual((room.deeds, room[1].folder), (3, "in/new"))
        room.redo()
        room.redo()
        self.assertTrue(room == example())
        with room.trial() as trial:
            room.undo()
            room.add(FIELDS.made("in"))
            trial.keep()
        self.refused(NothingToRedo, {}, room, room.redo)
        self.assertEqual((room.deeds, room.journal().split("\n")[-1]), (5, "add folder=in red=no size=- kind=-"))

    def test_trials_within_one_another(self):
        for outer_keeps in (False, True):
            for inner_keeps in (False, True):
                for keeps_ahead in (False, True):
                    room = example()
                    with room.trial() as outer:
                        if outer_keeps and keeps_ahead:
                            outer.keep()
                        room.add(FIELDS.made("in"))
                        with room.trial() as inner:
                            if inner_keeps:
                                inner.keep()
                            room[2].put("red")
                            room.take_out(0)
                        self.assertEqual(room.numbers, (1, 2) if inner_keeps else (0, 1, 2))
                        self.assertEqual(room.deeds, 8 if inner_keeps else 6)
                        room.add(FIELDS.made("out"))
                        if outer_keeps and not keeps_ahead:
                            outer.keep()
                    if outer_keeps:
                        self.assertEqual(room.numbers, (1, 2, 3) if inner_keeps else (0, 1, 2, 3))
                    else:
                        self.assertEqual(told(room), told(example()))

    def test_an_inner_error_that_is_caught(self):
        room = example()
        with room.trial() as outer:
            outer.keep()
            room.add(FIELDS.made("in"))
            with self.assertRaises(NoEntry):
                with room.trial() as inner:
                    inner.keep()
                    room.take_out(2)
                    room.take_out(2)
            self.assertEqual(room.numbers, (0, 1, 2))
        self.assertEqual((room.numbers, room.deeds), ((0, 1, 2), 6))

    def test_batches_within_a_trial(self):
        room = example()
        with room.trial():
            with room.batch():
                room.take_out(0)
                self.refused(Amid, {}, room, room.trial)
            self.assertEqual((room.deeds, room.numbers), (6, (1,)))
            room.undo()
            room.redo()
        self.assertEqual(told(room), told(example()))
        with room.trial() as trial:
            room.batched(lambda here: here.take_out(0))
            trial.keep()
        self.assertEqual((room.deeds, room.journal().split("\n")[-2:]), (6, ["batch 1", "take_out 0"]))

    def test_notices_and_looked(self):
        room = example()
        room.watch("new")
        room[0].put("red")
        with room.trial() as trial:
            room[0].drop("red")
            self.assertEqual((len(room.notices()), room.looked()), (2, ((0, "new"),)))
            room[0]["size"] = 0
        self.assertEqual((len(room.notices()), room.looked()), (1, ((0, "new"),)))
        with room.trial() as trial:
            trial.keep()
            room[0].drop("red")
            room[0]["size"] = 0
        self.assertEqual((room.notices(), room.looked()), (((7, "new", 0, False), (8, "new", 0, True)), ()))

    def test_numbers_are_given_again(self):
        room = example()
        with room.trial():
            self.assertEqual([room.add(FIELDS.made("in")), room.add(FIELDS.made("in"))], [2, 3])
        self.assertEqual(room.add(FIELDS.made("out")), 2)

    def test_entries_within_and_behind_it(self):
        room = example()
        entry = room[0]
        with room.trial():
            entry.lay("out")
            other = room[room.add(FIELDS.made("in"))]
            self.assertEqual((entry.folder, other.number), ("out", 2))
        self.assertEqual(entry.folder, "in")
        self.refused(NoEntry, {"value": 2}, room, lambda: other.item)


class TriedTest(RoomCase):
    def test_what_it_returns(self):
        room = example()
        values = []
        for value in any_values():
            for keep in (True, False):
                self.assertIs(room.tried(lambda here: value, keep=keep), value)
        room.tried(look=values.append)
        self.assertIs(values[0], room)
        self.assertRaises(TypeError, room.tried, values.append, True)
        self.assertEqual(told(room), told(example()))

    def test_keep(self):
        for value in [*any_values(), 1, "True", None]:
            room = example()
            self.assertEqual(room.tried(lambda here: here.add(FIELDS.made("in")), keep=value), 2)
            self.assertEqual(room.numbers, (0, 1, 2) if value is True else (0, 1))
        room = example()
        room.tried(lambda here: here.take_out(0))
        self.assertEqual(told(room), told(example()))

    def test_errors_go_on(self):
        room = example()

        def look(here):
            here.take_out(0)
            here.take_out(0)
        for keep in (False, True):
            with self.assertRaises(NoEntry):
                room.tried(look, keep=keep)
            self.assertEqual(told(room), told(example()))
        self.assertRaises(TypeError, room.tried, None)
        self.assertEqual(told(room), told(example()))

    def test_what_if(self):
        room = fuller()
        before = told(room)

        def look(here):
            here["new"] = everything()
            return here.members("new")
        self.assertEqual(room.tried(look), (0, 1, 2))
        self.assertEqual(told(room), before)


class RowsTest(RoomCase):
    def test_a_row_of_deeds(self):
        room = example()
        in_a_row(room, ("add", FIELDS.made("in")), ("watch", "new"), ("take_out", 2), ("undo",), ("undo",), ("redo",))
        self.assertEqual((room.numbers, room.watches, room.deeds), ((0, 1, 2), ("new",), 7))


if __name__ == "__main__":
    unittest.main()

"""Section 7: the tables of groups, to the letter."""

import unittest

from helper import FIELDS, LARGEST, SMALL, WIDE, all_choices, repr_of, some_searches
from wishshelves.fields import Fields
from wishshelves.searches import (
    at, below, everything, filled, least, marked, most, nothing, said)


def plain_table(fields, search):
    """Return the table of a group, worked out from a look at every item."""
    choices = all_choices(fields)
    first = asked(fields, choices, truths_below(fields, choices, search, ()), 0)
    if isinstance(first, bool):
        return (first,)
    rows, met = [], [first]
    while len(rows) < len(met):
        field, truths = met[len(rows)]
        size = len(truths) // len(choices[field])
        lots = {}
        for number, value in enumerate(choices[field]):
            goal = asked(fields, choices, truths[number * size:(number + 1) * size], field + 1)
            lots.setdefault(goal, []).append(value)
        branches = []
        for goal, values in lots.items():
            if not isinstance(goal, bool):
                if goal not in met:
                    met.append(goal)
                goal = met.index(goal)
            branches.append((shown(fields, field, values), goal))
        rows.append((fields.names[field], tuple(branches)))
    return tuple(rows)


def truths_below(fields, choices, search, ahead):
    """Return whether a search is true of the items that begin with these values, in their sequence."""
    if len(ahead) == len(choices):
        return (search(fields.item_of(ahead)),)
    truths = ()
    for value in choices[len(ahead)]:
        truths += truths_below(fields, choices, search, ahead + (value,))
    return truths


def asked(fields, choices, truths, field):
    """Return (field, truths) of the first field from this one on that makes a difference, a boolean if none does."""
    if len(set(truths)) == 1:
        return truths[0]
    size = len(truths) // len(choices[field])
    parts = {truths[number:number + size] for number in range(0, len(truths), size)}
    return (field, truths) if len(parts) > 1 else asked(fields, choices, truths[:size], field + 1)


def shown(fields, field, values):
    """Return values of a field as a table tells them: numbers as stretches as long as can be."""
    if fields.names[field] not in [name for name, most_of_it in fields.numbers]:
        return tuple(values)
    told = []
    for value in values:
        if value is not None and told and told[-1] is not None and told[-1][1] == value - 1:
            told[-1] = (told[-1][0], value)
        else:
            told.append(value if value is None else (value, value))
    return tuple(told)


class TablesTest(unittest.TestCase):
    def table(self, search, fields=FIELDS):
        return fields.group(search).table

    def test_the_example_of_the_document(self):
        table = self.table(below("in") & (marked("red") | least("size", 2)))
        self.assertEqual(table[0], ("folder", ((("in", "in/new"), 1), (("out",), False))))
        self.assertEqual(table[1:], (
            ("red", (((False,), 2), ((True,), True))), ("size", (((None, (0, 1)), False), (((2, 3),), True)))))

    def test_everything_and_nothing(self):
        for fields in (FIELDS, LARGEST, Fields(("a",))):
            self.assertEqual(repr(fields.everything.table), "(True,)")
            self.assertEqual(repr(fields.nothing.table), "(False,)")
            self.assertEqual(repr((fields.everything | fields.nothing).table), "(True,)")
            self.assertEqual(repr((fields.everything & fields.nothing).table), "(False,)")
        self.assertEqual(repr(self.table(marked("red") | ~marked("red"))), "(True,)")
        self.assertEqual(repr(self.table(at("in") & at("out"))), "(False,)")

    def test_tables_held_against_a_look_at_every_item(self):
        for fields, many in ((FIELDS, 200), (SMALL, 200), (WIDE, 12), (Fields(("a", "a/b", "b", "c")), 40)):
            for search in some_searches(fields, many, 41):
                self.assertEqual(repr(self.table(search, fields)), repr(plain_table(fields, search)), repr_of(search))

    def test_values(self):
        for search, branches in (
                (at("in/new"), ((("in", "out"), False), (("in/new",), True))),
                (~at("in"), ((("in",), False), (("in/new", "out"), True))),
                (marked("red"), (((False,), False), ((True,), True))),
                (~marked("red"), (((False,), True), ((True,), False))),
                (filled("size"), (((None,), False), (((0, 3),), True))),
                (~filled("size"), (((None,), True), (((0, 3),), False))),
                (least("size", 3), (((None, (0, 2)), False), (((3, 3),), True))),
                (most("size", 0), (((None, (1, 3)), False), (((0, 0),), True))),
                (least("size", 1) & most("size", 2), (((None, (0, 0), (3, 3)), False), (((1, 2),), True))),
                (~(least("size", 1) & most("size", 2)), (((None, (0, 0), (3, 3)), True), (((1, 2),), False))),
                (most("size", 0) | most("size", 2) & least("size", 2),
                 (((None, (1, 1), (3, 3)), False), (((0, 0), (2, 2)), True))),
                (filled("kind"), (((None,), False), (("note", "list"), True))),
                (said("kind", "list"), (((None, "note"), False), (("list",), True))),
                (~said("kind", "note"), (((None, "list"), True), (("note",), False)))):
            name = "folder" if search.conditions[0][0] == "at" else search.conditions[0][1]
            self.assertEqual(repr(self.table(search)), repr(((name, branches),)), repr_of(search))

    def test_numbers_to_99(self):
        self.assertEqual(self.table(least("i", 0), LARGEST), (("i", (((None,), False), (((0, 99),), True))),))
        self.assertEqual(self.table(least("i", 99), LARGEST), (("i", (((None, (0, 98)), False), (((99, 99),), True))),))
        self.assertEqual(self.table(~most("j", 49), LARGEST), (("j", (((None, (50, 99)), True), (((0, 49),), False))),))
        self.assertEqual(self.table(most("j", 99) & ~least("j", 99), LARGEST),
                         (("j", (((None, (99, 99)), False), (((0, 98),), True))),))

    def test_branches_to_the_same_are_one(self):
        search = (at("in") | at("out")) & marked("red") | at("in/new") & filled("kind")
        self.assertEqual(self.table(search), (
            ("folder", ((("in", "out"), 1), (("in/new",), 2))), ("red", (((False,), False), ((True,), True))),
            ("kind", (((None,), False), (("note", "list"), True)))))

    def test_rows_are_numbered_as_they_are_first_met(self):
        search = at("in") & said("kind", "note") | at("in/new") & (marked("red") ^ said("kind", "note")) | at(
            "out") & least("size", 1) & said("kind", "note")
        self.assertEqual(self.table(search), (
            ("folder", ((("in",), 1), (("in/new",), 2), (("out",), 3))),
            ("kind", (((None, "list"), False), (("note",), True))),
            ("red", (((False,), 1), ((True,), 4))),
            ("size", (((None, (0, 0)), False), (((1, 3),), 1))),
            ("kind", (((None, "list"), True), (("note",), False)))))

    def test_like_rows_are_one_row(self):
        search = nothing()
        for name in LARGEST.marks:
            search = search ^ marked(name)
        self.assertEqual(self.table(search, LARGEST), (
            ("e", (((False,), 1), ((True,), 2))), ("f", (((False,), 3), ((True,), 4))),
            ("f", (((False,), 4), ((True,), 3))), ("g", (((False,), 5), ((True,), 6))),
            ("g", (((False,), 6), ((True,), 5))), ("h", (((False,), False), ((True,), True))),
            ("h", (((False,), True), ((True,), False)))))

    def test_what_makes_no_difference_is_not_asked(self):
        self.assertEqual(self.table(marked("red") & at("in") | marked("red") & ~at("in")), self.table(marked("red")))
        self.assertEqual(self.table(everything() ^ said("kind", "other")), (True,))
        self.assertEqual(self.table(most("size", 2) & least("size", 3)), (False,))
        self.assertEqual(self.table(at("a"), SMALL), (True,))

    def test_the_largest_fields(self):
        search = (marked("e") | least("i", 10)) & (below("a") | most("j", 20)) ^ said("k", "b") & said("l", "d")
        table = self.table(search, LARGEST)
        self.assertEqual({name for name, branches in table}, {"folder", "e", "i", "j", "k", "l"})
        for name, branches in table:
            for values, goal in branches:
                if not isinstance(goal, bool):
                    self.assertLess(LARGEST.names.index(name), LARGEST.names.index(table[goal][0]))
        for search in some_searches(LARGEST, 30, 43, longest=16):
            group = LARGEST.group(search)
            self.assertEqual(counted(LARGEST, group.table), group.many)


def counted(fields, table):
    """Return how many items a table has."""
    if table in ((True,), (False,)):
        return fields.many if table[0] else 0
    known = {}
    return counted_from(fields, table, 0, known)


def counted_from(fields, table, goal, known):
    """Return how many items there are of which all behind a goal is true."""
    if isinstance(goal, bool):
        return fields.many if goal else 0
    if goal not in known:
        name, branches = table[goal]
        size = len(all_choices(fields)[fields.names.index(name)])
        many = 0
        for values, below_it in branches:
            width = sum(value[1] - value[0] + 1 if isinstance(value, tuple) else 1 for value in values)
            many += width * counted_from(fields, table, below_it, known) // size
        known[goal] = many
    return known[goal]


if __name__ == "__main__":
    unittest.main()

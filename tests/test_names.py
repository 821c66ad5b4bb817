"""Section 4 and 2: what a name, a path and an integer is."""

import unittest

from helper import any_values
from wishshelves.names import are_names, are_pairs, firsts, is_decimal, is_name, is_path, is_whole, place_among


class NamesTest(unittest.TestCase):
    def test_names(self):
        for name in ("a", "z", "az", "size", "abcdefgh", "folder", "self"):
            self.assertIs(is_name(name), True, name)
        for value in [*any_values(), "in/new", 0, 1, ("in",), ()]:
            self.assertIs(is_name(value), False, value)

    def test_paths(self):
        for path in ("a", "abcdefgh", "a/b", "a/b/c", "abcdefgh/abcdefgh/abcdefgh"):
            self.assertIs(is_path(path), True, path)
        for value in [*any_values(), 0, 1, ("in",), (), "a/b/c/d", "a/b/c/", "a/b/abcdefghi"]:
            self.assertIs(is_path(value), False, value)

    def test_integers(self):
        for value in (0, 1, 50, 98, 99):
            self.assertIs(is_whole(value, 0, 99), True, value)
        for value in [*any_values(), "in", "1"]:
            self.assertIs(is_whole(value, 0, 99), False, value)
        self.assertIs(is_whole(0, 1, 99), False)
        self.assertIs(is_whole(True, 1, 99), False)

    def test_decimals(self):
        for text in ("0", "1", "9", "10", "99"):
            self.assertIs(is_decimal(text, 2), True, text)
        for text in (
                "", "00", "01", "100", "-1", "+1", " 1", "1 ", "1.", "1_0", "a", "\u0663", "\u00b2", "\uff11", "1\n"):
            self.assertIs(is_decimal(text, 2), False, text)
        self.assertIs(is_decimal("123456789", 9), True)
        self.assertIs(is_decimal("1234567890", 9), False)
        self.assertIs(is_decimal("10", 1), False)

    def test_firsts(self):
        self.assertEqual(firsts(()), ())
        self.assertEqual(firsts((("b", 1), ("a", ()), ("b", None))), ("b", "a", "b"))

    def test_tuples_of_names(self):
        for value in ((), ("a",), ("b", "a"), tuple("abcdefghij")):
            self.assertIs(are_names(value), True, value)
        for value in [*any_values(), ["a"], ("a", "a"), ("a", None), ("a", []), ("a/b",), "ab"]:
            self.assertIs(are_names(value), False, value)

    def test_tuples_of_pairs(self):
        for value in ((), (("a", 1),), ((None, []), ({}, ()))):
            self.assertIs(are_pairs(value), True, value)
        for value in (
                [], [("a", 1)], (["a", 1],), (("a",),), (("a", 1, 2),), ("ab",), {}, None, "ab", (("a", 1), None)):
            self.assertIs(are_pairs(value), False, value)

    def test_places(self):
        self.assertEqual([place_among((None, 0, 1, 2), value) for value in (None, 0, 2, 3)], [0, 1, 3, -1])
        self.assertEqual([place_among((None, 0, 1, 2), value) for value in (False, True)], [-1, -1])
        self.assertEqual([place_among((False, True), value) for value in (False, True, 0, 1, None)], [0, 1, -1, -1, -1])
        for value in any_values():
            self.assertEqual(place_among(("in", "red"), value), -1, value)


if __name__ == "__main__":
    unittest.main()

"""Section 6: texts of searches."""

import itertools
import unittest

from helper import FIELDS, LARGEST, WIDE, any_values, repr_of, some_searches
from wishshelves.errors import BadText
from wishshelves.searches import (
    Search, at, below, everything, filled, least, marked, most, nothing, said, shelf)
from wishshelves.searchtexts import read_search, show_search

WRITTEN = [
    (at("in"), "in in"), (at("a/b/c"), "in a/b/c"), (below("in/new"), "below in/new"), (marked("red"), "marked red"),
    (least("size", 2), "size >= 2"), (most("size", 0), "size <= 0"), (least("size", 99), "size >= 99"),
    (filled("kind"), "filled kind"), (said("kind", "note"), "kind is note"), (shelf("x"), "shelf x"),
    (everything(), "everything"), (nothing(), "nothing"),
    (~marked("red"), "~marked red"), (~least("size", 2), "~size >= 2"), (~everything(), "~everything"),
    (at("a") & at("b"), "in a & in b"), (at("a") | at("b"), "in a | in b"), (at("a") ^ at("b"), "in a ^ in b"),
    (at("a") - at("b"), "in a & ~in b"), (at("a") & at("b") & "c", "in a & in b & shelf c"),
    ((at("a") | at("b")) & "c", "(in a | in b) & shelf c"), (at("a") | at("b") & "c", "in a | in b & shelf c"),
    ((at("a") ^ at("b")) & "c", "(in a ^ in b) & shelf c"), (at("a") ^ at("b") & "c", "in a ^ in b & shelf c"),
    ((at("a") | at("b")) ^ "c", "(in a | in b) ^ shelf c"), (at("a") | at("b") ^ "c", "in a | in b ^ shelf c"),
    (at("a") & (at("b") ^ "c") | "d", "in a & (in b ^ shelf c) | shelf d"),
    ("x" & (at("a") | at("b") ^ "c"), "shelf x & (in a | in b ^ shelf c)"),
    ("x" ^ (at("a") | at("b") & "c"), "shelf x ^ (in a | in b & shelf c)"),
    (~(at("a") & at("b")), "~(in a & in b)"), (~(at("a") ^ at("b")), "~(in a ^ in b)"),
    (~(at("a") | at("b")), "~(in a | in b)"), (~(at("a") & at("b")) & "c", "~(in a & in b) & shelf c"),
    ("c" - (at("a") | at("b")), "shelf c & ~(in a | in b)"),
    (~at("a") | ~(~at("b") ^ "c"), "~in a | ~(~in b ^ shelf c)"),
]

# Names that are words of texts, too.
WORDS = ["in", "below", "marked", "filled", "shelf", "is", "everything", "nothing", "folder"]

NOT_SO_WRITTEN = [
    "", " ", "in", "in ", " in a", "in a ", "in  a", "in\ta", "in\na", "in a\n", "\nin a", "in a\r", "in\u00a0a",
    "IN a", "In a", "in A", "in a/", "in /a", "in a//b", "in a/b/c/d", "in abcdefghi", "in a b", "in 1", "at a", "a",
    "below", "below a b", "marked", "marked a/b", "marked a b", "marked abcdefghi", "marked A", "marked a1",
    "marked \u00e4",
    "filled", "filled a/b", "shelf", "shelf a/b", "shelf X", "most a 1", "least a 1", "said a b",
    "a >= ", "a >=", ">= 1", "a >= b", "a >= -1", "a >= 100", "a >= 01", "a >= 00", "a >= 007", "a >= +1", "a >= 1.0",
    "a >= 1_0", "a >= 0x1", "a >=  1", "a  >= 1", "a>=1", "a >=1", "a>= 1", "a > 1", "a < 1", "a = 1", "a == 1",
    "a != 1",
    "a => 1", "a =< 1", "a <= 100", "a <= 1000000000000", "a <= 05", "a <= \u0663", "a <= \u00b2", "a/b >= 1", "A >= 1",
    "a >= 1 2", "a >= True", "a >= None",
    "a is", "is a", "a is A", "a is b c", "a is 1", "a/b is c", "a is b/c", "a  is b", "a IS b", "a is None", "a is -",
    "everything ", " everything", "Everything", "everything a", "nothing nothing", "every thing", "none", "None",
    "True",
    "in a &", "& in a", "in a & ", " & in a", "in a&in b", "in a& in b", "in a &in b", "in a  & in b", "in a &  in b",
    "in a && in b", "in a & & in b", "in a | | in b", "in a and in b", "in a or in b", "in a - in b", "in a + in b",
    "in a in b", "in a, in b", "in a &\nin b", "in a ^", "^ in a", "in a |", "| in a", "&", "|", "^", "-", "~", "~ ",
    "(in a)", "((in a))", "(in a & in b)", "(everything)", "~(in a)", "(~in a)", "~((in a & in b))", "(in a) & in b",
    "in a & (in b)", "in a & (in b & in c)", "(in a & in b) & in c", "in a | (in b & in c)", "in a | (in b ^ in c)",
    "in a ^ (in b & in c)", "(in a & in b) ^ in c", "(in a & in b) | in c", "(in a ^ in b) | in c",
    "in a | (in b | in c)",
    "in a ^ (in b ^ in c)", "in a & ((in b | in c))", "in a & (in b | (in c & in d))", "(in a | in b) & (~in c)",
    "~~in a", "~~~in a", "~ in a", "~ (in a & in b)", "~~(in a & in b)", "~(~in a)", "~(~(in a & in b))", "in ~a",
    "in a & ~ in b", "in a ~", "in a~", "in a ~in b", "~in a & ~~in b", "-in a", "!in a", "not in a",
    "( in a | in b) & in c", "(in a | in b ) & in c", "(in a | in b)& in c", "(in a | in b) &in c",
    "(in a | in b)  & in c",
    "(in a | in b & in c", "in a | in b) & in c", "(in a | in b)) & in c", ")in a(", "(", ")", "()", "() & in a",
    "in ()",
    "in a & ()", "(in a | in b) in c", "in a & (in b | in c) in d", "in a & (in b | in c)(in d | in e)", "in (a)",
    "in a & (in b |)", "in a & (| in b)", "~()", "in a & in b)", "[in a | in b] & in c", "in a;", "in a #", "\"in a\"",
    "in a & (in b | in c) ", "(in a | in b) &", "(in a\n| in b) & in c", "in a &\u00a0in b", "\ufeffin a", "in a\x00",
]


def in_a_row(sign, many):
    """Return the text of a row of so many conditions."""
    return f" {sign} ".join(["marked red"] * many)


class ShownTest(unittest.TestCase):
    def test_the_examples_of_the_document(self):
        search = below("in") & (marked("red") | least("size", 2))
        self.assertEqual([show_search(search), show_search(~(search ^ said("kind", "note")) | "x")], [
            "below in & (marked red | size >= 2)",
            "~(below in & (marked red | size >= 2) ^ kind is note) | shelf x"])
        self.assertTrue(read_search("~marked red & size <= 2") == ~marked("red") & read_search("size <= 2"))

    def test_shown(self):
        for search, text in WRITTEN:
            self.assertEqual(show_search(search), text)
            self.assertEqual(show_search(search=search), text)

    def test_names_that_are_words(self):
        for word in WORDS:
            for search, text in (
                    (at(word), f"in {word}"), (below(f"{word}/{word}"), f"below {word}/{word}"),
                    (marked(word[:8]), f"marked {word[:8]}"), (filled(word[:8]), f"filled {word[:8]}"),
                    (shelf(word[:8]), f"shelf {word[:8]}"), (least(word[:8], 3), f"{word[:8]} >= 3"),
                    (most(word[:8], 3), f"{word[:8]} <= 3")) if len(word) <= 8 else ():
                self.assertEqual(show_search(search), text)
                self.assertTrue(read_search(text) == search, text)
        short = [word for word in WORDS if len(word) <= 8]
        for name, word in itertools.product(short, repeat=2):
            self.assertTrue(read_search(f"{name} is {word}") == said(name, word))
        self.assertTrue(read_search("in is & is is is | ~in in ^ shelf is") == (
            at("is") & said("is", "is") | ~at("in") ^ shelf("is")))
        self.assertTrue(read_search("nothing >= 1 & nothing") == least("nothing", 1) & nothing())

    def test_brackets_stand_just_where_they_are_needed(self):
        signs = {"&": lambda a, b: a & b, "^": lambda a, b: a ^ b, "|": lambda a, b: a | b}
        order = "|^&"
        for inner, outer in itertools.product(signs, repeat=2):
            row = signs[inner](marked("a"), marked("b"))
            shown = f"marked a {inner} marked b"
            needed = order.index(inner) < order.index(outer)
            told = f"({shown})" if needed else shown
            self.assertEqual(show_search(signs[outer](row, marked("c"))), f"{told} {outer} marked c")
            self.assertEqual(show_search(signs[outer](marked("c"), row)), f"marked c {outer} {told}")
            self.assertEqual(show_search(signs[outer](marked("c"), ~row)), f"marked c {outer} ~({shown})")


class ReadTest(unittest.TestCase):
    def refused(self, value):
        with self.assertRaises(BadText) as caught:
            read_search(value)
        self.assertIs(caught.exception.value, value)

    def test_read(self):
        for search, text in WRITTEN:
            found = read_search(text)
            self.assertIsInstance(found, Search)
            self.assertEqual(repr_of(found), repr_of(search))
            self.assertTrue(found == search == read_search(text=text))
            self.assertEqual((found.many, found.shelves), (search.many, search.shelves))

    def test_what_is_shown_is_read_back(self):
        for fields in (FIELDS, WIDE, LARGEST):
            for search in some_searches(fields, 300, 59, longest=16, names=("x", "in", "is")):
                self.assertEqual(repr_of(read_search(show_search(search))), repr_of(search))

    def test_any_values_are_refused(self):
        for value in [*any_values(), 0, b"in a", ("in a",), ["in a"], at("in")]:
            self.refused(value)

    def test_what_is_not_so_written(self):
        for text in NOT_SO_WRITTEN:
            self.refused(text)

    def test_all_numbers(self):
        for number in range(100):
            self.assertEqual(read_search(f"size >= {number}").parts, ("least", "size", number))
            self.assertEqual(read_search(f"size <= {number}").parts, ("most", "size", number))
            self.refused(f"size >= 0{number}")
            self.refused(f"size <= {number + 100}")
            self.refused(f"size >= -{number}")

    def test_sixteen_conditions(self):
        for sign in "&|^":
            self.assertEqual(read_search(in_a_row(sign, 16)).many, 16)
            self.refused(in_a_row(sign, 17))
            self.refused(in_a_row(sign, 5000))
        text = in_a_row("|", 8) + " | ~(" + in_a_row("&", 8) + ")"
        self.assertEqual(read_search(text).many, 16)
        self.refused(text + " | marked red")
        self.refused(text + " & marked red")
        self.refused("marked red & (" + text + ")")

    def test_deep_texts(self):
        text = "in a | in b"
        for number in range(7):
            text = f"in a | in b & ({text})"
        self.assertEqual(show_search(read_search(text)), text)
        self.refused(f"in a | in b & ({text})")
        text = "in a & in b"
        for number in range(14):
            text = f"~({text}) & in c"
        self.assertEqual(show_search(read_search(text)), text)
        self.refused(f"~({text}) & in c")

    def test_endless_texts(self):
        for sign in ("(", ")", "~", "~(", "in a & (", "in a & ~(", "(~", " ", "& ", "in ", "in a ", "~ ", "( "):
            self.refused(sign * 20000)
            self.refused(sign * 20000 + "in a")
            self.refused("in a & " + sign * 20000)
        self.refused("(" * 5000 + "in a" + ")" * 5000)
        self.refused("in a" * 20000)
        self.refused("a >= " + "1" * 20000)

    def test_one_sign_more_or_less(self):
        for search, text in WRITTEN:
            for place in range(len(text) + 1):
                self.only_what_is_so_written(text[:place] + text[place + 1:])
                for sign in " ()~&|^0a/A>":
                    self.only_what_is_so_written(text[:place] + sign + text[place:])

    def test_rows_of_words_and_signs(self):
        for many in range(1, 5):
            for words in itertools.product(["in", "a", "is", "~", "&", "(", ")", ">=", "1", "everything"], repeat=many):
                self.only_what_is_so_written(" ".join(words))

    def only_what_is_so_written(self, text):
        try:
            search = read_search(text)
        except BadText as error:
            self.assertIs(error.value, text)
        else:
            self.assertEqual(show_search(search), text)


if __name__ == "__main__":
    unittest.main()

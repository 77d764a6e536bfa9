"""The basics, each with values of all kinds that are right and that are not."""

import inspect
import unittest

from cutshows import basics
from cutshows.basics import is_count, is_integer, is_name, is_where

# Values that are nothing of what the functions look for.
OTHERS = [
    True, False, None, [], {}, set(), {1}, b"", b"a", object(), int, is_name,
    [1], ["a"], [[]], {"a": 1}, {1: "a"}, range(3), frozenset(), ValueError("a"),
]
INTEGERS = [-999999999, -2, -1, 0, 1, 2, 8, 9, 999999999]
NAMES = ["a", "z", "m", "ab", "az", "abcdefgh", "zzzzzzzz", "row"]
STRINGS = [
    "", "abcdefghi", "a" * 9, "a" * 100, "A", "Z", "aB", "Abc", "abC", "0", "1", "9", "a1", "1a", "a1b",
    " ", " a", "a ", "a b", "\n", "a\n", "\na", "a\nb", "_", "a_b", "-", "a-b", "a.", "`", "{", "@", "[", "~",
    "abcdefg ", "abcdefg\n", "abcdefgH",
]
WHERES = [
    (), (1,), (2,), (999999999,), ("c",), ("abcdefgh",), (1, 2), (2, "c", 1), ("c", "d"), ("a", 1, "a", 1),
    (1, 1), ("a",) * 5, (1,) * 20,
]
TUPLES = [
    (0,), (-1,), (True,), (False,), (None,), ("",), ("A",), ("a b",), ("a\n",), ("abcdefghi",), ("1",),
    (1, 0), (1, True), (True, 1), (1, "c", True), ("c", 0), (1, 2, -1), ((),), ((1,),), (1, (2,)), ([],),
    ([1],), ({},), (b"a",), (1, None), ("a", "B"), (1, {}),
]


class Basics(unittest.TestCase):
    def check(self, function, right, wrong):
        for value in right:
            self.assertIs(function(value), True, repr(value))
            self.assertIs(function(value=value), True, repr(value))
        for value in wrong:
            self.assertIs(function(value), False, repr(value))
            self.assertIs(function(value=value), False, repr(value))

    def test_integers(self):
        self.check(is_integer, INTEGERS, OTHERS + NAMES + STRINGS + WHERES + TUPLES)

    def test_counts(self):
        right = [value for value in INTEGERS if value >= 0]
        below = [value for value in INTEGERS if value < 0]
        self.assertIn(0, right)
        self.assertIn(-1, below)
        self.check(is_count, right, below + OTHERS + NAMES + STRINGS + WHERES + TUPLES)

    def test_names(self):
        self.check(is_name, NAMES, INTEGERS + OTHERS + STRINGS + WHERES + TUPLES)

    def test_each_character_in_a_name(self):
        letters = "abcdefghijklmnopqrstuvwxyz"
        for code in [10] + list(range(32, 127)):
            for text in (chr(code), "a" + chr(code), chr(code) + "a", "aaaaaaa" + chr(code)):
                self.assertIs(is_name(text), chr(code) in letters, repr(text))

    def test_each_length_of_a_name(self):
        for length in range(20):
            self.assertIs(is_name("x" * length), 1 <= length <= 8)

    def test_wheres(self):
        self.check(is_where, WHERES, INTEGERS + OTHERS + NAMES + STRINGS + TUPLES)

    def test_a_list_is_no_where(self):
        for where in WHERES:
            self.assertIs(is_where(list(where)), False)

    def test_nothing_passed_is_changed(self):
        for value in ([1, "a"], {"a": [1]}, ([1], "a"), {1}):
            before = repr(value)
            for function in (is_integer, is_count, is_name, is_where):
                function(value)
            self.assertEqual(repr(value), before)

    def test_each_is_defined_in_its_file(self):
        for function in (is_integer, is_count, is_name, is_where):
            self.assertEqual(function.__module__, basics.__name__)
            self.assertEqual(list(inspect.signature(function).parameters), ["value"])


if __name__ == "__main__":
    unittest.main()

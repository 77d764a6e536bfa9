"""Symbols: which numbers they give, and what they refuse."""

import inspect
import unittest

from cutshows import symbols
from cutshows.errors import InvalidSymbols, UnknownSymbol
from cutshows.symbols import Symbols
from tests.common import OTHERS, Case

QUESTIONS = [
    ("s", (), []), ("s", (), [0]), ("s", (), [1]), ("s", (), [0, 1]), ("s", (), [1, 0]), ("s", (), [0, 0]),
    ("t", (), []), ("t", (), [0]), ("s", (1,), []), ("s", (2,), []), ("s", ("c",), []), ("s", (1, 2), [0]),
    ("s", (2, 1), [0]), ("s", (1, "c"), [0]), ("s", ("c", 1), [0]), ("st", (), [0, 1, 1]),
]


class Interface(Case):
    def test_each_stands_in_its_file_and_class(self):
        self.assertEqual(Symbols.__module__, symbols.__name__)
        self.assertEqual(Symbols.__mro__, (Symbols, object))
        for name in ("__init__", "number", "symbol", "many", "__len__", "copy"):
            self.assertIn(name, vars(Symbols))
        self.assertIsInstance(vars(Symbols)["many"], property)
        self.assertEqual(list(inspect.signature(Symbols).parameters), ["many"])
        self.assertEqual(list(inspect.signature(Symbols.number).parameters), ["self", "label", "where", "reads"])
        self.assertEqual(list(inspect.signature(Symbols.symbol).parameters), ["self", "number"])


class Numbers(Case):
    def test_the_first_ones_are_those_of_the_boxes(self):
        for many in (1, 2, 3):
            told = Symbols(many)
            self.assertEqual([told.many, len(told)], [many, many])
            self.assertEqual([told.symbol(number) for number in range(many)], [(number,) for number in range(many)])
            self.assertEqual(told.number("s", (), []), many)

    def test_new_questions_and_equal_ones(self):
        told = Symbols(2)
        for turn in range(2):
            for place, (label, where, reads) in enumerate(QUESTIONS):
                self.assertEqual(told.number(label, where, reads), 2 + place)
                self.assertEqual(len(told), 2 + (len(QUESTIONS) if turn else place + 1))
                self.assertEqual(told.symbol(2 + place), (label, where, tuple(reads)))
        self.assertEqual(told.many, 2)

    def test_reads_as_a_list_and_as_a_tuple(self):
        told = Symbols(2)
        self.assertEqual(told.number("s", (1,), [0, 1]), 2)
        self.assertEqual(told.number("s", (1,), (0, 1)), 2)
        self.assertEqual(told.number(label="s", where=(1,), reads=(0, 1)), 2)
        self.assertEqual(told.number("s", (1,), (1, 0)), 3)
        self.assertEqual([told.symbol(2), told.symbol(3)], [("s", (1,), (0, 1)), ("s", (1,), (1, 0))])

    def test_results_of_results(self):
        told = Symbols(1)
        for number in range(1, 200):
            self.assertEqual(told.number("s", (number,), [number - 1] * 3), number)
        self.assertEqual(told.symbol(199), ("s", (199,), (198, 198, 198)))

    def test_what_was_passed_can_be_changed(self):
        told = Symbols(2)
        reads = [0, 1]
        told.number("s", (), reads)
        reads.append(0)
        self.assertEqual(told.symbol(2), ("s", (), (0, 1)))
        self.assertEqual(told.number("s", (), [0, 1]), 2)


class Errors(Case):
    def test_no_number_of_boxes(self):
        for value in [*OTHERS, 0, 4, 5, -1, 999999999, "1", [1], (1,), Symbols(1)]:
            self.raised(InvalidSymbols, {"value": value}, Symbols, value)

    def test_no_numbers_of_symbols(self):
        told = Symbols(2)
        told.number("s", (), [])
        for value in [*OTHERS, 3, 4, -1, -2, 999999999, "1", [1], (1,), []]:
            self.raised(UnknownSymbol, {"value": value}, told.symbol, value)
            for reads in ([value], (value,), [0, value], [2, value, True], [0, 1, 2, value], [value, 77]):
                self.raised(UnknownSymbol, {"value": value}, told.number, "t", (), reads)
            self.assertEqual(len(told), 3)

    def test_a_refused_call_changes_nothing(self):
        told = Symbols(1)
        for reads in ([0, 1], [1], [True], [None, 0]):
            self.assertRaises(UnknownSymbol, told.number, "s", (), reads)
        self.assertEqual(len(told), 1)
        self.raised(UnknownSymbol, {"value": 1}, told.symbol, 1)
        self.assertEqual(told.number("t", (), [0]), 1)
        self.assertEqual(told.number("s", (), [0, 1]), 2)

    def test_many_is_not_assigned(self):
        with self.assertRaises(AttributeError):
            Symbols(1).many = 2


class Copies(Case):
    def test_they_go_on_by_themselves(self):
        one = Symbols(2)
        one.number("s", (), [0])
        other = one.copy()
        self.assertIs(other.__class__, Symbols)
        self.assertEqual([other.many, len(other), other.symbol(2)], [2, 3, ("s", (), (0,))])
        self.assertEqual(one.number("t", (), []), 3)
        self.assertEqual([len(one), len(other)], [4, 3])
        self.raised(UnknownSymbol, {"value": 3}, other.symbol, 3)
        self.assertEqual(other.number("u", (1,), [2]), 3)
        self.assertEqual([one.symbol(3), other.symbol(3)], [("t", (), ()), ("u", (1,), (2,))])
        self.assertEqual([one.number("s", (), [0]), other.number("s", (), [0])], [2, 2])
        self.assertEqual([one.number("u", (1,), [2]), other.number("t", (), [])], [4, 4])


if __name__ == "__main__":
    unittest.main()

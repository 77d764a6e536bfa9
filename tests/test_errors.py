"""The errors: their bases, their parameters, and their attributes by the same names."""

import inspect
import unittest

from cutshows import errors

BASES = {
    "CutError": ValueError,
    "MissingError": LookupError,
    "StateError": RuntimeError,
    "LimitError": ArithmeticError,
}

LISTED = {
    "CutError": {
        "InvalidClasses": ["value"], "InvalidHolder": ["value"], "InvalidPartition": ["value"],
        "InvalidBoxes": ["position"], "InvalidPointers": ["key"], "InvalidParts": ["key"],
        "InvalidRows": ["position"], "InvalidProgram": ["value"], "InvalidPoint": ["value"],
        "InvalidSymbols": ["value"], "InvalidYes": ["position"], "InvalidLabels": ["position"],
        "InvalidPlay": ["value"], "InvalidStanding": ["value"], "InvalidVow": ["value"],
        "InvalidWish": ["position"], "InvalidRow": ["value"], "InvalidText": ["line"],
        "InvalidClaim": ["value"], "InvalidCommand": ["value"],
    },
    "MissingError": {
        "UnknownLabel": ["value"], "UnknownName": ["value"], "UnknownBox": ["value"],
        "UnknownSymbol": ["value"],
    },
    "StateError": {
        "OtherHolders": ["one", "other"], "CallRing": ["part"], "NotCalled": ["part"],
        "NotClosed": ["label"], "TwoWorlds": ["label", "passes"], "RunOver": [], "NotRight": ["vow"],
        "Untrue": ["claim"], "NothingToUndo": [], "CommandFailed": ["position"],
    },
    "LimitError": {"TooMany": ["what", "limit"]},
}


class Unwilling:
    """A value that can be neither shown nor compared."""

    def __repr__(self):
        raise OSError

    __str__ = __repr__

    def __eq__(self, other):
        raise OSError

    __hash__ = None


VALUES = [None, True, 0, -1, "", "a", [1, [2]], (), ("x", (1,)), {"k": []}, {3}, object(), ValueError("x"), Unwilling()]


def listed():
    """All (class, class above it, names of its parameters), the four bases included."""
    for base, below in LISTED.items():
        yield getattr(errors, base), BASES[base], []
        for name, names in below.items():
            yield getattr(errors, name), getattr(errors, base), names


class Classes(unittest.TestCase):
    def test_the_file_has_these_classes_and_no_others(self):
        found = {name for name, value in vars(errors).items() if inspect.isclass(value)}
        self.assertEqual(found, {kind.__name__ for kind, _, _ in listed()})
        for kind, _, _ in listed():
            self.assertEqual(kind.__module__, "cutshows.errors")

    def test_each_stands_right_below_the_one_class_above_it(self):
        for kind, above, _ in listed():
            self.assertEqual(kind.__bases__, (above,), kind)

    def test_each_is_of_no_other_class_of_the_package(self):
        for kind, above, _ in listed():
            for other, _, _ in listed():
                self.assertEqual(issubclass(kind, other), other in (kind, above), (kind, other))

    def test_each_can_be_caught_by_the_class_above_it(self):
        for kind, above, names in listed():
            with self.assertRaises(above) as caught:
                raise kind(*names)
            self.assertIs(caught.exception.__class__, kind)


class Attributes(unittest.TestCase):
    def test_by_position_and_by_name(self):
        for kind, _, names in listed():
            for value in VALUES:
                told = [value, "second"][:len(names)]
                by_position = kind(*told)
                by_name = kind(**dict(zip(names, told)))
                for name, one in zip(names, told):
                    self.assertIs(getattr(by_position, name), one, (kind, name))
                    self.assertIs(getattr(by_name, name), one, (kind, name))

    def test_two_parameters_in_their_sequence(self):
        error = errors.OtherHolders("first", "second")
        self.assertEqual((error.one, error.other), ("first", "second"))
        error = errors.TwoWorlds("a", (1, "c"))
        self.assertEqual((error.label, error.passes), ("a", (1, "c")))
        error = errors.TooMany("rows", 12)
        self.assertEqual((error.what, error.limit), ("rows", 12))

    def test_no_other_attributes(self):
        for kind, _, names in listed():
            self.assertEqual(sorted(vars(kind(*names))), sorted(names), kind)

    def test_neither_more_parameters_nor_fewer(self):
        for kind, _, names in listed():
            with self.assertRaises(TypeError):
                kind(*names, "one more")
            with self.assertRaises(TypeError):
                kind(*names, more=1)
            if names:
                with self.assertRaises(TypeError):
                    kind(*names[1:])

    def test_classes_without_parameters_take_none(self):
        for kind, _, names in listed():
            if not names:
                kind()
                for value in VALUES:
                    with self.assertRaises(TypeError):
                        kind(value)


if __name__ == "__main__":
    unittest.main()

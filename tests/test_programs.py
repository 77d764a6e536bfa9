"""Programs: what is none, which error comes first, and what a program tells."""

import inspect
import itertools
import unittest

from cutshows import programs
from cutshows.errors import (
    CallRing, InvalidBoxes, InvalidParts, InvalidPointers, InvalidRows, NotCalled, TooMany, UnknownLabel, UnknownName,
)
from cutshows.points import points
from cutshows.programs import Program
from tests.common import OTHERS, Case, Maker, samples

NO_LISTS = [value for value in OTHERS if value is not None] + [1, "abc", range(1), object()]

# Each word with a right row of it, among the boxes a and b, the pointer p and the part q, in a loop of a part.
RIGHT = {
    "set": ("set", "x", "a", ["b", "p", "a"]),
    "copy": ("copy", "x", "p", "b"),
    "point": ("point", "x", "p", "p"),
    "show": ("show", "x", "p"),
    "if": ("if", "x", ["a", "a", "a"], [("show", "y", "a")], [("stop", "z")]),
    "loop": ("loop", "x", ["p"], [("show", "y", "a")]),
    "leave": ("leave", "x"),
    "next": ("next", "x"),
    "back": ("back", "x"),
    "stop": ("stop", "x"),
    "call": ("call", "x", "r"),
}
OPERANDS = {"set": [2], "copy": [2, 3], "point": [3], "show": [2]}
READS = {"set": 3, "if": 2, "loop": 2}
BLOCKS = {"if": [3, 4], "loop": [3]}
WRONG = OTHERS + [1, (), [], ("a",), ["a"], "z", "x", "q"]


def placed(row):
    """The arguments of a program in which a row stands in a loop of a part; it is the row 4 in text order."""
    return {
        "boxes": ["a", "b"], "pointers": {"p": "b"},
        "rows": [("show", "m", "a"), ("call", "c", "q"), ("call", "d", "r")],
        "parts": {"q": [("loop", "l", [], [row])], "r": []},
    }


def put(row, place, value):
    return row[:place] + (value,) + row[place + 1:]


class Examples(Case):
    def test_word_for_word(self):
        self.word_for_word("""
            >>> from cutshows.programs import Program
            >>> Program(['a'], [('show', 'x', 'a')], pointers={}, parts={})
            Program(['a'], [('show', 'x', 'a')], pointers={}, parts={})
        """, 2, "Stage 2")


class Interface(Case):
    def test_each_stands_in_its_file_and_class(self):
        self.assertEqual(Program.__module__, programs.__name__)
        self.assertEqual(Program.__mro__, (Program, object))
        for name in """__init__ boxes pointers rows parts labels __getitem__ __contains__ __len__ around within part_of
                calls_of tests __eq__ __repr__""".split():
            self.assertIn(name, vars(Program))

    def test_parameters(self):
        told = inspect.signature(Program).parameters
        self.assertEqual(list(told), ["boxes", "rows", "pointers", "parts"])
        self.assertEqual([told[name].default for name in told], [inspect.Parameter.empty, (), None, None])
        self.assertEqual([told[name].kind for name in ("pointers", "parts")], [inspect.Parameter.KEYWORD_ONLY] * 2)
        for name in ("around", "within", "part_of"):
            self.assertEqual(list(inspect.signature(getattr(Program, name)).parameters), ["self", "label"])
        self.assertEqual(list(inspect.signature(Program.calls_of).parameters), ["self", "part"])

    def test_class_value(self):
        self.assertEqual(Program.MOST_ROWS, 12)
        self.assertEqual(Program(["a"]).MOST_ROWS, 12)

    def test_pointers_by_position(self):
        with self.assertRaises(TypeError):
            Program(["a"], [], {})


class Boxes(Case):
    def test_right_ones(self):
        for boxes in (["a"], ["b", "a"], ("abcdefgh", "z", "y"), ["if", "set", "end"]):
            self.assertEqual(Program(boxes).boxes(), list(boxes))
            self.assertEqual(Program(boxes=boxes), Program(list(boxes)))

    def test_no_such_list(self):
        for value in [None, *NO_LISTS, [], (), ["a", "b", "c", "d"], ["a"] * 4, [1] * 4]:
            self.raised(InvalidBoxes, {"position": None}, Program, value)

    def test_the_first_wrong_one(self):
        for value in [*OTHERS, 1, [], ["a"], ("a",)]:
            self.raised(InvalidBoxes, {"position": 0}, Program, [value, "a", "a"])
            self.raised(InvalidBoxes, {"position": 1}, Program, ["b", value])
            self.raised(InvalidBoxes, {"position": 2}, Program, ("b", "a", value))
        self.raised(InvalidBoxes, {"position": 1}, Program, ["a", "a", "a"])
        self.raised(InvalidBoxes, {"position": 2}, Program, ["a", "b", "a"])
        self.raised(InvalidBoxes, {"position": 1}, Program, ["a", "a", 7])


class PointersAndParts(Case):
    def test_rows_that_are_no_list(self):
        for value in [None, *NO_LISTS]:
            self.raised(InvalidRows, {"position": None}, Program, ["a"], value)

    def test_pointers_that_are_no_dict(self):
        for value in [False, True, 0, 1, "", "p", [], (), [("p", "a")], {"p"}, object()]:
            self.raised(InvalidPointers, {"key": None}, Program, ["a"], pointers=value)

    def test_pointers_with_wrong_keys(self):
        for key in [None, True, 1, "", "A", "p p", "abcdefghi", b"p", ("p",), "a"]:
            self.raised(InvalidPointers, {"key": None}, Program, ["a", "b"], pointers={key: "a"})
            self.raised(InvalidPointers, {"key": None}, Program, ["a", "b"], pointers={"d": "z", key: "a"})
        self.raised(InvalidPointers, {"key": None}, Program, ["a"], pointers={"p": "a", "q": "a", "r": "a"})
        self.raised(InvalidPointers, {"key": None}, Program, ["a"], pointers={"p": 1, "q": 1, "r": 1})

    def test_the_least_pointer_whose_value_is_no_box(self):
        for value in [*OTHERS, 1, "c", "p", ["a"], []]:
            self.raised(InvalidPointers, {"key": "p"}, Program, ["a", "b"], pointers={"p": value})
            self.raised(InvalidPointers, {"key": "p"}, Program, ["a", "b"], pointers={"q": value, "p": value})
            self.raised(InvalidPointers, {"key": "q"}, Program, ["a", "b"], pointers={"q": value, "p": "b"})

    def test_pointers(self):
        for told in ({}, {"p": "a"}, {"q": "a", "p": "b"}, {"p": "a", "q": "a"}):
            program = Program(["b", "a"], pointers=told)
            self.assertEqual(list(program.pointers().items()), sorted(told.items()))
        self.assertEqual(Program(["a"], pointers=None).pointers(), {})
        self.assertEqual(Program(["a"], pointers=None), Program(["a"], pointers={}))

    def test_parts_that_are_no_dict(self):
        for value in [False, True, 0, 1, "", "p", [], (), [("p", [])], {"p"}, object()]:
            self.raised(InvalidParts, {"key": None}, Program, ["a"], parts=value)

    def test_parts_with_wrong_keys(self):
        for key in [None, True, 1, "", "A", "p p", "abcdefghi", b"p", ("p",)]:
            self.raised(InvalidParts, {"key": None}, Program, ["a"], parts={key: []})
            self.raised(InvalidParts, {"key": None}, Program, ["a"], parts={"q": 1, key: []})

    def test_the_least_part_whose_value_is_no_list(self):
        for value in [None, *NO_LISTS]:
            self.raised(InvalidParts, {"key": "p"}, Program, ["a"], parts={"p": value})
            self.raised(InvalidParts, {"key": "p"}, Program, ["a"], parts={"q": value, "p": value, "r": []})
            self.raised(InvalidParts, {"key": "q"}, Program, ["a"], parts={"r": value, "q": value, "p": []})

    def test_part_names_may_be_names_of_other_things(self):
        program = Program(["a"], [("call", "a", "a"), ("call", "p", "p")], pointers={"p": "a"},
            parts={"p": [], "a": ()})
        self.assertEqual(list(program.parts().items()), [("a", []), ("p", [])])

    def test_which_error_comes_first(self):
        wrong = {"boxes": 1, "rows": 1, "pointers": 1, "parts": 1}
        right = {"boxes": ["a"], "rows": [1], "pointers": {}, "parts": {"q": []}}
        kinds = {"boxes": InvalidBoxes, "rows": InvalidRows, "pointers": InvalidPointers, "parts": InvalidParts}
        for name in kinds:
            attribute = "key" if name in ("pointers", "parts") else "position"
            self.raised(kinds[name], {attribute: None}, Program, **wrong)
            wrong[name] = right[name]
        self.raised(InvalidRows, {"position": 0}, Program, **wrong)
        wrong["pointers"] = {"p": "z"}
        self.raised(InvalidPointers, {"key": "p"}, Program, **wrong)


class RowsByThemselves(Case):
    def wrong(self, row):
        self.raised(InvalidRows, {"position": 4}, Program, **placed(row))

    def test_right_ones(self):
        for row in RIGHT.values():
            program = Program(**placed(row))
            self.assertEqual(program.labels()[4], "x")
            self.assertEqual(program["x"], tuple(
                tuple(value) if row[0] in READS and place == READS[row[0]] else value for place, value in enumerate(row)
            ))

    def test_no_tuple(self):
        for row in [*OTHERS, 1, "show x a", (), ("show",), ("x",), [], *[list(row) for row in RIGHT.values()]]:
            self.wrong(row)

    def test_another_word(self):
        for row in RIGHT.values():
            for word in ["", "Set", "end", "pass", "row", "else", " show", "shows", 1, None, True, ("show",), ["show"],
                {}]:
                self.wrong((word, *row[1:]))

    def test_a_word_of_another_shape(self):
        shapes = {"set": 1, "copy": 2, "point": 3, "show": 4, "if": 5, "loop": 6, "call": 7}
        for word, row in itertools.product(RIGHT, RIGHT.values()):
            if shapes.get(word) != shapes.get(row[0]) and {word, row[0]} != {"point", "copy"}:
                self.wrong((word, *row[1:]))
        self.wrong(("point", *RIGHT["copy"][1:2], "a", "b"))

    def test_another_length(self):
        for word, row in RIGHT.items():
            for length in range(len(row)):
                self.wrong(row[:length])
            for more in ("a", [], ["a"], None):
                self.wrong(row + (more,))

    def test_another_label(self):
        for row in RIGHT.values():
            for label in [*OTHERS, 1, ["x"], ("x",)]:
                self.wrong(put(row, 1, label))

    def test_a_label_that_an_earlier_row_has(self):
        for row in RIGHT.values():
            for label in ("m", "c", "d", "l"):
                self.wrong(put(row, 1, label))

    def test_other_operands(self):
        for word, places in OPERANDS.items():
            for place, operand in itertools.product(places, ("a", "b", "p")):
                Program(**placed(put(RIGHT[word], place, operand)))
            for place, operand in itertools.product(places, WRONG):
                self.wrong(put(RIGHT[word], place, operand))

    def test_other_pointers(self):
        for value in ["a", "b", *WRONG]:
            self.wrong(put(RIGHT["point"], 2, value))

    def test_other_parts(self):
        for value in ["a", "p", "l", *[value for value in WRONG if not isinstance(value, str) or value != "q"]]:
            self.wrong(put(RIGHT["call"], 2, value))

    def test_reads(self):
        for word, place in READS.items():
            for many in range(4):
                for reads in itertools.product("abp", repeat=many):
                    told = Program(**placed(put(RIGHT[word], place, list(reads))))["x"]
                    self.assertEqual(told[place], reads)
                    self.assertIs(told[place].__class__, tuple)
                    self.assertEqual(Program(**placed(put(RIGHT[word], place, reads)))["x"], told)
            for value in [None, *NO_LISTS, ["a"] * 4, ("a", "b", "a", "b"), [1] * 4]:
                self.wrong(put(RIGHT[word], place, value))
            for value in WRONG:
                for position in range(3):
                    reads = ["a", "b", "a"]
                    reads[position] = value
                    self.wrong(put(RIGHT[word], place, reads))
                    self.wrong(put(RIGHT[word], place, tuple(reads)))

    def test_blocks(self):
        for word, places in BLOCKS.items():
            for place in places:
                for block in ([], (), [("show", "w", "a")], (("show", "w", "a"),)):
                    told = Program(**placed(put(RIGHT[word], place, block)))["x"]
                    self.assertEqual(told[place], list(block))
                for value in [None, *NO_LISTS]:
                    self.wrong(put(RIGHT[word], place, value))

    def test_a_row_where_a_block_should_be(self):
        # A tuple is a list of rows here, and its first element is no row.
        self.raised(InvalidRows, {"position": 5}, Program, **placed(("loop", "x", [], ("show", "y", "a"))))


class Placed(Case):
    def wrong(self, position, rows, **more):
        self.raised(InvalidRows, {"position": position}, Program, ["a"], rows, **more)

    def test_leave_and_next(self):
        for word in ("leave", "next"):
            jump = (word, "x")
            Program(["a"], [("loop", "l", [], [jump])])
            Program(["a"], [("loop", "l", [], [("if", "i", [], [], [("if", "j", [], [jump], [])])])])
            self.wrong(0, [jump])
            self.wrong(1, [("if", "i", [], [jump], [])])
            self.wrong(1, [("if", "i", [], [], [jump])])
            self.wrong(1, [("loop", "l", [], []), jump])
            self.wrong(2, [("loop", "l", [], [("call", "c", "q")])], parts={"q": [jump]})
            self.wrong(1, [("call", "c", "q")], parts={"q": [jump]})
            Program(["a"], [("call", "c", "q")], parts={"q": [("loop", "l", [], [jump])]})

    def test_back(self):
        back = ("back", "x")
        self.wrong(0, [back])
        self.wrong(1, [("loop", "l", [], [back])])
        self.wrong(1, [("if", "i", [], [], [back])])
        for block in ([back], [("loop", "l", [], [back])], [("if", "i", [], [], [back])]):
            Program(["a"], [("call", "c", "q")], parts={"q": block})
        self.wrong(1, [("call", "c", "q"), back], parts={"q": [("back", "y")]})

    def test_stop_anywhere(self):
        for block in ([("stop", "x")], [("loop", "l", [], [("stop", "x")])], [("if", "i", [], [("stop", "x")], [])]):
            self.assertIn("x", Program(["a"], block))
            self.assertIn("x", Program(["a"], [("call", "c", "q")], parts={"q": block}))


class FirstWrongRow(Case):
    def test_each_position(self):
        """A wrong row in the place of each row, or behind it: main, nested, in parts."""
        right = [
            ("show", "a", "a"),
            ("if", "b", [], [("show", "c", "a"), ("loop", "d", [], [("next", "e")])], [("show", "f", "a")]),
            ("call", "g", "p"), ("call", "h", "q"),
        ]
        parts = {"q": [("show", "l", "a")], "p": [("loop", "i", [], [("show", "j", "a")]), ("back", "k")]}
        whole = Program(["a"], right, parts=parts)
        self.assertEqual(whole.labels(), list("abcdefghijkl"))
        for position, label in enumerate(whole.labels()):
            for wrong in (("show",), ("show", label, "z"), None, ("show", "A", "a")):
                told = [self.swapped(block, label, wrong) for block in (right, parts["p"], parts["q"])]
                self.raised(InvalidRows, {"position": position}, Program, ["a"], told[0],
                            parts={"q": told[2], "p": told[1]})

    def swapped(self, block, label, wrong):
        found = []
        for row in block:
            blocks = [self.swapped(inner, label, wrong) for inner in row[3:]]
            found.append(wrong if row[1] == label else row[:3] + tuple(blocks))
        return found

    def test_the_first_in_text_order(self):
        wrong = ("show", "w", "z")
        for rows, position in (
            ([wrong, wrong], 0),
            ([("show", "a", "a"), wrong, wrong], 1),
            ([("if", "i", [], [("show", "a", "a")], [wrong]), wrong], 2),
            ([("if", "i", [], [wrong], [wrong]), wrong], 1),
            ([("loop", "l", [], [("loop", "m", [], []), wrong]), wrong], 2),
        ):
            self.raised(InvalidRows, {"position": position}, Program, ["a"], rows)

    def test_rows_within_behind_the_row_itself(self):
        wrong = ("show", "w", "z")
        for row in (
            ("if", "i", ["z"], [wrong], []), ("if", "i", [], [wrong], None), ("if", "i", [], [wrong], [], []),
            ("if", "i", [], None, [wrong]), ("loop", "I", [], [wrong]), ("loop", "i", 1, [wrong]),
        ):
            self.raised(InvalidRows, {"position": 0}, Program, ["a"], [row])
        self.raised(InvalidRows, {"position": 1}, Program, ["a"], [("show", "i", "a"), ("if", "i", [], [wrong], [])])

    def test_labels_in_text_order(self):
        twice = ("show", "x", "a")
        self.raised(InvalidRows, {"position": 1}, Program, ["a"], [twice, twice])
        self.raised(InvalidRows, {"position": 1}, Program, ["a"], [("loop", "x", [], [twice])])
        self.raised(InvalidRows, {"position": 2}, Program, ["a"], [("if", "i", [], [twice], [twice])])
        self.raised(InvalidRows, {"position": 2}, Program, ["a"], [("loop", "i", [], [twice]), twice])
        calls = [("call", "c", "p"), ("call", "d", "q")]
        self.raised(InvalidRows, {"position": 3}, Program, ["a"], calls, parts={"q": [twice], "p": [twice]})
        self.raised(InvalidRows, {"position": 2}, Program, ["a"], calls, parts={"q": [("show", "c", "a")], "p": []})
        self.raised(InvalidRows, {"position": 2}, Program, ["a"], [twice, ("call", "c", "p")], parts={"p": [twice]})

    def test_main_rows_ahead_of_parts_and_parts_by_names(self):
        wrong = ("show", "w", "z")
        calls = [("call", "c", "p"), ("call", "d", "q")]
        self.raised(InvalidRows, {"position": 1}, Program, ["a"], [calls[0], wrong], parts={"p": [wrong]})
        self.raised(InvalidRows, {"position": 2}, Program, ["a"], calls, parts={"q": [wrong], "p": [wrong]})
        self.raised(InvalidRows, {"position": 3}, Program, ["a"], calls, parts={"q": [wrong], "p": [("back", "x")]})

    def test_wrong_rows_ahead_of_rings_and_limits(self):
        wrong = ("show", "w", "z")
        many = [("show", first + second, "a") for first in "abcd" for second in "wxyz"]
        self.raised(InvalidRows, {"position": 16}, Program, ["a"], many + [wrong])
        self.raised(InvalidRows, {"position": 2}, Program, ["a"], [("call", "c", "p")],
                    parts={"p": [("call", "d", "p"), wrong], "n": []})


class Calls(Case):
    def test_rings(self):
        call = [("call", "c", "q")]
        for parts, part in (
            ({"q": [("call", "d", "q")]}, "q"),
            ({"q": [("call", "d", "r")], "r": [("call", "e", "q")]}, "q"),
            ({"r": [("call", "d", "p")], "q": [("call", "f", "r")], "p": [("call", "e", "q")]}, "p"),
            # From q calls lead into a ring, but not to itself.
            ({"q": [("call", "d", "r")], "r": [("call", "e", "r")]}, "r"),
            ({"q": [("call", "d", "s")], "s": [("call", "e", "r")], "r": [("call", "f", "s")]}, "r"),
            ({"q": [("loop", "l", [], [("if", "i", [], [], [("call", "d", "q")])])]}, "q"),
        ):
            self.raised(CallRing, {"part": part}, Program, ["a"], call, parts=parts)

    def test_rings_that_are_not_called_and_calls_that_are_never_done(self):
        self.raised(CallRing, {"part": "z"}, Program, ["a"], [], parts={"z": [("call", "c", "z")], "a": []})
        self.raised(CallRing, {"part": "z"}, Program, ["a"], [("call", "d", "z")],
                    parts={"z": [("back", "b"), ("call", "c", "z")]})

    def test_not_called(self):
        self.raised(NotCalled, {"part": "q"}, Program, ["a"], [], parts={"q": []})
        self.raised(NotCalled, {"part": "p"}, Program, ["a"], [], parts={"q": [], "p": []})
        self.raised(NotCalled, {"part": "q"}, Program, ["a"], [("call", "c", "p")], parts={"q": [], "p": [], "r": []})
        self.raised(NotCalled, {"part": "q"}, Program, ["a"], [("call", "c", "p")],
                    parts={"r": [], "p": [], "q": [("call", "d", "r")]})
        self.raised(NotCalled, {"part": "p"}, Program, ["a"], [], parts={"q": [("call", "c", "p")], "p": []})

    def test_called(self):
        for rows, parts in (
            ([("stop", "s"), ("call", "c", "q")], {"q": []}),
            ([("loop", "l", [], [("if", "i", [], [], [("call", "c", "q")])])], {"q": []}),
            ([("call", "c", "r")], {"q": [], "r": [("call", "d", "q")]}),
            ([("call", "c", "r"), ("call", "e", "q")], {"q": [], "r": [("call", "d", "q"), ("call", "f", "q")]}),
        ):
            self.assertEqual(list(Program(["a"], rows, parts=parts).parts()), sorted(parts))


class Limits(Case):
    def rows(self, many):
        return [("show", first + second, "a") for first in "abcdef" for second in "uvwxyz"][:many]

    def too_many(self, what, limit, rows, parts=None):
        self.raised(TooMany, {"what": what, "limit": limit}, Program, ["a"], rows, parts=parts)

    def test_rows(self):
        for many in range(13):
            self.assertEqual(len(Program(["a"], self.rows(many))), many)
        for many in (13, 14, 30):
            self.too_many("rows", 12, self.rows(many))
        self.assertEqual(len(Program(["a"], self.rows(10) + [("call", "c", "q")], parts={"q": [("back", "x")]})), 12)
        self.too_many("rows", 12, self.rows(10) + [("call", "c", "q")], {"q": [("back", "x"), ("back", "y")]})
        self.too_many("rows", 12, [("loop", "l", [], [("if", "i", [], self.rows(6), self.rows(11)[6:])])])

    def test_calls(self):
        rows = [("call", "c", "p")]
        parts = {"p": [("call", "d", "q")], "q": [("show", "x", "a")]}
        Program(["a"], rows, parts=parts)
        parts = {"p": [("call", "d", "q")], "q": [("call", "e", "r")], "r": [("show", "x", "a")]}
        self.too_many("calls", 2, rows, parts)
        self.too_many("calls", 2, [("call", "g", "q"), *rows], parts)
        # A part without rows has no places, so none has more than two calls.
        self.assertEqual(len(Program(["a"], rows, parts={**parts, "r": []})), 3)
        self.too_many("calls", 2, rows, {**parts, "r": [("call", "f", "s")], "s": []})

    def test_loops(self):
        def nested(inner):
            return [("loop", "l", [], [("if", "i", [], [], [("loop", "m", [], inner)])])]
        Program(["a"], nested([]))
        Program(["a"], nested([("if", "j", [], [("show", "x", "a")], [])]))
        self.too_many("loops", 2, nested([("loop", "n", [], [])]))
        self.too_many("loops", 2, nested([("if", "j", [], [], [("loop", "n", [], [])])]))
        Program(["a"], [("loop", "l", [], [("loop", "m", [], []), ("loop", "n", [], [])]), ("loop", "o", [], [])])

    def test_loops_through_calls(self):
        part = {"q": [("loop", "m", [], [("show", "x", "a")])]}
        Program(["a"], [("loop", "l", [], [("call", "c", "q")])], parts=part)
        twice = [("loop", "l", [], [("loop", "n", [], [("call", "c", "q")])])]
        self.too_many("loops", 2, twice, part)
        Program(["a"], twice, parts={"q": [("show", "x", "a")]})
        once = [("loop", "l", [], [("call", "c", "q")])]
        self.too_many("loops", 2, once, {"q": [("loop", "m", [], [("loop", "n", [], [])])]})
        self.too_many("loops", 2, once, {"q": [("loop", "m", [], [("call", "d", "r")])], "r": [("loop", "n", [], [])]})
        # Of two calls one is enough.
        self.too_many("loops", 2, [("call", "d", "q"), *twice], part)

    def test_points(self):
        calls = [("call", "c" + letter, "q") for letter in "abcdef"]
        loops = [("loop", "l" + letter, [], []) for letter in "abcde"]
        # Each call has a point, 8 for rows and 4 for ends of passes; and there is the end.
        part = {"q": loops[:4] + self.rows(4)}
        self.assertEqual(len(points(Program(["a"], calls[:3], parts=part))), 3 * (1 + 8 + 4) + 1)
        self.too_many("points", 40, calls[:3] + [("stop", "x")], part)
        self.too_many("points", 40, calls[:3], {"q": loops[:5] + self.rows(3)})
        self.too_many("points", 40, calls[:3], {"q": loops[:4] + self.rows(5)})
        self.too_many("points", 40, calls, {"q": self.rows(6)})
        self.assertEqual(len(points(Program(["a"], calls, parts={"q": self.rows(5)}))), 37)

    def test_which_comes_first(self):
        deep = [("loop", "l", [], [("loop", "m", [], [("loop", "n", [], [("call", "c", "p")])])])]
        parts = {"p": [("call", "d", "q")], "q": [("call", "e", "r")], "r": [("show", "x", "a")]}
        self.too_many("calls", 2, deep, parts)
        self.too_many("rows", 12, deep + self.rows(8), parts)
        self.raised(NotCalled, {"part": "z"}, Program, ["a"], deep + self.rows(8), parts={**parts, "z": []})
        self.raised(CallRing, {"part": "y"}, Program, ["a"], deep, parts={**parts, "y": [("call", "h", "y")], "b": []})
        calls = [("call", "c" + letter, "q") for letter in "abcdefg"]
        loops = [("loop", "l", [], [("loop", "m", [], [("loop", "n", [], [])])])]
        self.too_many("loops", 2, calls, {"q": loops})
        self.too_many("points", 40, calls + [("call", "ch", "q")], {"q": [("loop", "l", [], [("loop", "m", [], [])])]})
        chain = {"q": [("call", "x", "r"), ("call", "y", "r")], "r": [("call", "z", "s")], "s": [("show", "w", "a")]}
        self.too_many("calls", 2, calls, chain)


class Telling(Case):
    def setUp(self):
        self.program = samples()["jumps"]

    def test_all(self):
        told = self.program
        self.assertEqual(told.boxes(), ["a", "b"])
        self.assertEqual(told.pointers(), {"p": "a"})
        self.assertEqual(told.rows(), [
            ("loop", "l", ("a",), [
                ("if", "i", ("a", "p"), [("next", "n")], [("if", "j", (), [], [("leave", "v")])]), ("call", "c", "q"),
            ]),
            ("show", "w", "a"),
        ])
        self.assertEqual(told.parts(), {
            "q": [("if", "k", ("b",), [("back", "e")], []), ("point", "m", "p", "b"), ("set", "s", "p", ("a",))],
        })
        self.assertEqual(told.labels(), ["l", "i", "n", "j", "v", "c", "w", "k", "e", "m", "s"])
        self.assertEqual(told.tests(), ["l", "i", "j", "k"])
        self.assertEqual(len(told), 11)

    def test_kinds_of_what_is_told(self):
        def look(block):
            self.assertIs(block.__class__, list)
            for row in block:
                self.assertIs(row.__class__, tuple)
                if row[0] in ("set", "if", "loop"):
                    self.assertIs(row[3 if row[0] == "set" else 2].__class__, tuple)
                for inner in row[3:] if row[0] in ("if", "loop") else []:
                    look(inner)
        for program in samples().values():
            look(program.rows())
            for name in program.parts():
                look(program.parts()[name])
            for label in program.labels():
                look([program[label]])
            self.assertEqual(list(program.pointers()), sorted(program.pointers()))
            self.assertEqual(list(program.parts()), sorted(program.parts()))

    def test_each_row(self):
        for program in samples().values():
            found = []
            for block in [program.rows(), *program.parts().values()]:
                while block:
                    row, *block = block
                    found.append(row)
                    block = [*(row[3] if row[0] in ("if", "loop") else []), *(row[4] if row[0] == "if" else []), *block]
            self.assertEqual([row[1] for row in found], program.labels())
            self.assertEqual([program[row[1]] for row in found], found)

    def test_around_and_within(self):
        around = {"l": "", "i": "l", "n": "li", "j": "li", "v": "lij", "c": "l", "w": "", "k": "", "e": "k", "m": "",
            "s": ""}
        within = {"l": "injvc", "i": "njv", "j": "v", "k": "e"}
        for label in self.program.labels():
            self.assertEqual(self.program.around(label), list(around[label]))
            self.assertEqual(self.program.within(label), list(within.get(label, "")))
            self.assertEqual(self.program.part_of(label), "q" if label in "kems" else "")

    def test_around_tells_the_reverse_of_within(self):
        for program in [*samples().values(), *Maker(1).programs(40)]:
            for one, other in itertools.product(program.labels(), repeat=2):
                self.assertEqual(one in program.around(other), other in program.within(one))
            for label in program.labels():
                self.assertEqual(program.within(label),
                    [one for one in program.labels() if label in program.around(one)])
                self.assertEqual(program.around(label),
                    [one for one in program.labels() if label in program.within(one)])

    def test_calls_of(self):
        program = samples()["calls"]
        self.assertEqual([program.calls_of(part) for part in "pqr"], [["c", "d"], ["f"], ["e"]])
        several = Program(["a"], [("call", "z", "q"), ("loop", "l", [], [("call", "b", "q")]), ("call", "c", "p")],
                          parts={"p": [("call", "a", "q")], "q": []})
        self.assertEqual(several.calls_of("q"), ["z", "b", "a"])
        for value in [*OTHERS, 1, "", "a", "c", "z", [], ["p"]]:
            self.raised(UnknownName, {"value": value}, program.calls_of, value)
        self.raised(UnknownName, {"value": "p"}, Program(["a"]).calls_of, "p")

    def test_labels_that_are_none(self):
        told = [self.program.__getitem__, self.program.around, self.program.within, self.program.part_of]
        for action, value in itertools.product(told,
            [*OTHERS, 1, 0, "a", "q", "p", "x", [], ["l"], ("l",), slice(0, 1)]):
            self.raised(UnknownLabel, {"value": value}, action, value)

    def test_in(self):
        for value in [*OTHERS, 1, 0, "a", "q", "p", "x", [], ["l"], ("l",), slice(0, 1), self.program]:
            self.assertIs(value in self.program, False)
        for label in self.program.labels():
            self.assertIs(label in self.program, True)

    def test_not_iterated_over(self):
        with self.assertRaises(TypeError):
            iter(self.program)
        with self.assertRaises(TypeError):
            list(Program(["a"]))

    def test_empty(self):
        program = Program(["b", "a"])
        self.assertEqual([program.rows(), program.parts(), program.labels(), program.tests()], [[], {}, [], []])
        self.assertEqual(len(program), 0)

    def test_repr(self):
        self.assertEqual(repr(Program(("a",), (("show", "x", "a"),))),
                         "Program(['a'], [('show', 'x', 'a')], pointers={}, parts={})")
        self.assertEqual(repr(self.program), (
            "Program(['a', 'b'], [('loop', 'l', ('a',), [('if', 'i', ('a', 'p'), [('next', 'n')], [('if', 'j', (), [], "
            "[('leave', 'v')])]), ('call', 'c', 'q')]), ('show', 'w', 'a')], pointers={'p': 'a'}, parts={'q': [('if', "
            "'k', ('b',), [('back', 'e')], []), ('point', 'm', 'p', 'b'), ('set', 's', 'p', ('a',))]})"
        ))
        for program in [*samples().values(), *Maker(2).programs(30)]:
            self.assertEqual(eval(repr(program)), program)
            self.assertEqual(repr(eval(repr(program))), repr(program))

    def test_repr_sorts_keys(self):
        calls = [("call", "x", "v"), ("call", "y", "u")]
        program = Program(["a"], calls, pointers={"q": "a", "p": "a"}, parts={"v": [], "u": []})
        self.assertIn("pointers={'p': 'a', 'q': 'a'}, parts={'u': [], 'v': []}", repr(program))


class Equal(Case):
    def test_lists_and_tuples_alike(self):
        rows = [("if", "i", ["a"], [("set", "s", "a", ["b"])], [("loop", "l", [], [("stop", "x")])]),
            ("call", "c", "q")]
        again = (("if", "i", ("a",), (("set", "s", "a", ("b",)),), (("loop", "l", (), (("stop", "x"),)),)),
            ("call", "c", "q"))
        one = Program(["a", "b"], rows, parts={"q": []})
        other = Program(("a", "b"), again, parts={"q": ()})
        self.assertTrue(one == other)
        self.assertFalse(one != other)
        self.assertEqual(repr(one), repr(other))

    def test_keys_in_any_sequence(self):
        calls = [("call", "c", "q"), ("call", "d", "r")]
        parts = {"q": [("show", "x", "a")], "r": [("show", "y", "a")]}
        one = Program(["a"], calls, pointers={"m": "a", "n": "a"}, parts=parts)
        other = Program(["a"], calls, pointers={"n": "a", "m": "a"}, parts={name: parts[name] for name in "rq"})
        self.assertEqual(one, other)
        self.assertEqual(one.labels(), other.labels())
        self.assertEqual(repr(one), repr(other))

    def test_different_in_one_thing(self):
        def made(**more):
            told = {"boxes": ["a", "b"], "rows": [("call", "c", "q"), ("show", "x", "a")], "pointers": {"p": "a"},
                    "parts": {"q": [("set", "s", "a", ["b"])]}}
            return Program(**{**told, **more})
        self.assertEqual(made(), made())
        for more in (
            {"boxes": ["b", "a"]}, {"boxes": ["a", "b", "c"]}, {"pointers": {}}, {"pointers": {"p": "b"}},
            {"pointers": {"o": "a"}}, {"pointers": {"p": "a", "o": "a"}}, {"rows": [("call", "c", "q")]},
            {"rows": [("show", "x", "a"), ("call", "c", "q")]}, {"rows": [("call", "c", "q"), ("show", "x", "b")]},
            {"rows": [("call", "c", "q"), ("show", "y", "a")]}, {"parts": {"q": []}},
            {"parts": {"q": [("set", "s", "a", [])]}}, {"parts": {"q": [("set", "s", "a", ["b", "b"])]}},
            {"parts": {"q": [("set", "t", "a", ["b"])]}}, {"rows": [("call", "c", "q"), ("show", "x", "p")]},
        ):
            self.assertTrue(made() != made(**more), more)
            self.assertFalse(made() == made(**more), more)
            self.assertNotEqual(repr(made()), repr(made(**more)))

    def test_blocks_count(self):
        show = [("show", "x", "a")]
        self.assertNotEqual(Program(["a"], [("if", "i", [], show, [])]), Program(["a"], [("if", "i", [], [], show)]))
        self.assertNotEqual(Program(["a"], [("loop", "i", [], show)]), Program(["a"], [("loop", "i", [], []), *show]))
        self.assertNotEqual(Program(["a"], [("call", "c", "q"), *show], parts={"q": []}),
                            Program(["a"], [("call", "c", "q")], parts={"q": show}))

    def test_values_of_other_kinds(self):
        program = Program(["a"])
        for value in [None, 0, True, "", repr(program), [], ["a"], (), {}, object(), Program]:
            self.assertFalse(program == value)
            self.assertTrue(program != value)


class NothingChanges(Case):
    def test_what_was_passed_can_be_changed(self):
        reads, inner, block, rows = ["a"], [("show", "x", "a")], [], []
        block.append(("if", "i", reads, inner, []))
        rows.append(("loop", "l", reads, block))
        rows.append(("call", "c", "q"))
        boxes, pointers, part = ["a", "b"], {"p": "a"}, [("set", "s", "a", reads)]
        parts = {"q": part}
        program = Program(boxes, rows, pointers=pointers, parts=parts)
        before = repr(program)
        told = repr([boxes, rows, pointers, parts])
        for value in (reads, inner, block, rows, boxes, part):
            value.append("z")
        pointers["r"] = "b"
        del pointers["p"], parts["q"]
        self.assertEqual(repr(program), before)
        self.assertEqual(program.within("l"), ["i", "x"])
        self.assertNotEqual(repr([boxes, rows, pointers, parts]), told)

    def test_what_is_passed_stays(self):
        rows = [("loop", "l", ["a"], [("if", "i", ["a"], [("show", "x", "a")], ())]), ("call", "c", "q")]
        told = [["a"], rows, {"p": "a"}, {"r": [], "q": [("call", "d", "r")]}]
        before = repr(told)
        Program(told[0], told[1], pointers=told[2], parts=told[3])
        self.assertEqual(repr(told), before)

    def test_what_is_told_can_be_changed(self):
        program = samples()["jumps"]
        before = repr(program)
        program.boxes().append("z")
        program.pointers()["p"] = "z"
        program.pointers().clear()
        program.rows().clear()
        program.rows()[0][3].clear()
        program.rows()[0][3][0][4].clear()
        program.parts().clear()
        program.parts()["q"].clear()
        program.parts()["q"][0][3].append(1)
        program["l"][3].clear()
        program["i"][3].append(1)
        for told in (program.labels(), program.tests(), program.around("v"), program.within("l"),
            program.calls_of("q")):
            told.clear()
        self.assertEqual(repr(program), before)
        self.assertEqual(program.labels(), ["l", "i", "n", "j", "v", "c", "w", "k", "e", "m", "s"])
        self.assertEqual(program.tests(), ["l", "i", "j", "k"])
        self.assertEqual(program.around("v"), ["l", "i", "j"])
        self.assertEqual(program.within("l"), ["i", "n", "j", "v", "c"])
        self.assertEqual(program.calls_of("q"), ["c"])
        self.assertEqual(program["l"][3][0], program["i"])


if __name__ == "__main__":
    unittest.main()

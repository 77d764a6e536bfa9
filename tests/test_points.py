"""Points and the ways between them, each row of the document by itself, and against a second look at all of them."""

import inspect
import unittest

from cutshows import points as points_file
from cutshows.errors import InvalidPoint, InvalidProgram, UnknownLabel, UnknownName
from cutshows.points import follows, point_of, points, ways
from cutshows.programs import Program
from tests.common import OTHERS, Case, Maker, samples, small
from tests.plainly import Ways


def row(label, *calls):
    return ("row", label, calls)


def ending(label, *calls):
    return ("pass", label, calls)


END = ("end", "", ())


class Examples(Case):
    def test_word_for_word(self):
        self.word_for_word("""
            >>> from cutshows.programs import Program
            >>> from cutshows.points import points, ways
            >>> small = Program(["a", "b"], [("loop", "l", ["a"], [("set", "s", "a", ["a"])]), ("show", "w", "b")])
            >>> points(small)
            [('row', 'l', ()), ('row', 's', ()), ('pass', 'l', ()), ('row', 'w', ()), ('end', '', ())]
            >>> [ways(small, 0), ways(small, 2), ways(small, 4)]
            [{False: 3, True: 1}, {None: 0}, {}]
        """, 5, "Stage 2")


class Interface(Case):
    def test_each_is_defined_in_its_file(self):
        names = {points: ["program"], point_of: ["program", "label", "calls"], ways: ["program", "point"],
                 follows: ["program", "point"]}
        for function, parameters in names.items():
            self.assertEqual(function.__module__, points_file.__name__)
            self.assertEqual(list(inspect.signature(function).parameters), parameters)
        self.assertEqual(inspect.signature(point_of).parameters["calls"].default, ())


class Leading(Case):
    """Each row of [24] by itself: `goes` tells where ways lead, by the points themselves."""

    def goes(self, program, told):
        listed = points(program)
        for point, expected in told.items():
            expected = expected if isinstance(expected, dict) else {None: expected}
            found = ways(program, listed.index(point))
            self.assertEqual({answer: listed[aim] for answer, aim in found.items()}, expected, point)
            self.assertEqual(list(found), [False, True] if len(expected) == 2 else [None] * len(expected))

    def test_rows_that_go_on(self):
        program = Program(["a"], [("set", "s", "a", []), ("copy", "c", "a", "a"), ("point", "t", "p", "a"),
            ("show", "w", "a")],
                          pointers={"p": "a"})
        self.assertEqual(points(program), [row("s"), row("c"), row("t"), row("w"), END])
        self.goes(program, {row("s"): row("c"), row("c"): row("t"), row("t"): row("w"), row("w"): END, END: {}})

    def test_no_rows(self):
        self.assertEqual(points(Program(["a"])), [END])
        self.assertEqual(ways(Program(["a"]), 0), {})

    def test_if(self):
        program = Program(["a"], [
            ("if", "i", [], [("show", "x", "a"), ("show", "y", "a")], [("show", "z", "a")]), ("show", "w", "a"),
        ])
        self.assertEqual(points(program), [row("i"), row("x"), row("y"), row("z"), row("w"), END])
        self.goes(program, {
            row("i"): {False: row("z"), True: row("x")}, row("x"): row("y"), row("y"): row("w"), row("z"): row("w"),
        })

    def test_if_with_empty_blocks(self):
        show = [("show", "x", "a")]
        for yes, no, expected in (
            (show, [], {False: row("w"), True: row("x")}), ([], show, {False: row("x"), True: row("w")}),
            ([], [], {False: row("w"), True: row("w")}),
        ):
            self.goes(Program(["a"], [("if", "i", [], yes, no), ("show", "w", "a")]), {row("i"): expected})
            last = {answer: END if aim == row("w") else aim for answer, aim in expected.items()}
            self.goes(Program(["a"], [("if", "i", [], yes, no)]), {row("i"): last})

    def test_loop(self):
        program = Program(["a"], [("loop", "l", [], [("show", "x", "a"), ("show", "y", "a")]), ("show", "w", "a")])
        self.assertEqual(points(program), [row("l"), row("x"), row("y"), ending("l"), row("w"), END])
        self.goes(program, {
            row("l"): {False: row("w"), True: row("x")}, row("x"): row("y"), row("y"): ending("l"),
            ending("l"): row("l"),
        })

    def test_loop_with_an_empty_block(self):
        program = Program(["a"], [("loop", "l", [], [])])
        self.assertEqual(points(program), [row("l"), ending("l"), END])
        self.goes(program, {row("l"): {False: END, True: ending("l")}, ending("l"): row("l")})

    def test_loop_in_a_loop(self):
        program = Program(["a"], [("loop", "o", [], [("loop", "l", [], [])])])
        self.assertEqual(points(program), [row("o"), row("l"), ending("l"), ending("o"), END])
        self.goes(program, {
            row("o"): {False: END, True: row("l")}, row("l"): {False: ending("o"), True: ending("l")},
            ending("l"): row("l"), ending("o"): row("o"),
        })

    def test_leave_and_next_mean_the_innermost_loop(self):
        jumps = [("if", "i", [], [("leave", "v")], [("if", "j", [], [("next", "n")], [])]), ("show", "x", "a")]
        program = Program(["a"], [("loop", "o", [], [("loop", "l", [], jumps), ("next", "m"), ("leave", "u")]),
            ("show", "w", "a")])
        self.goes(program, {
            row("v"): row("m"), row("n"): ending("l"), row("j"): {False: row("x"), True: row("n")},
            row("x"): ending("l"),
            row("m"): ending("o"), row("u"): row("w"),
        })

    def test_leave_at_the_end_of_blocks(self):
        program = Program(["a"], [("loop", "o", [], [("if", "i", [], [], [("loop", "l", [], [("leave", "v")])])])])
        self.goes(program, {row("v"): ending("o"), row("l"): {False: ending("o"), True: row("v")},
            ending("l"): row("l")})

    def test_rows_behind_jumps(self):
        program = Program(["a"], [("stop", "h"),
            ("loop", "l", [], [("next", "n"), ("leave", "v"), ("show", "x", "a")])])
        self.goes(program, {row("h"): END, row("n"): ending("l"), row("v"): END, row("x"): ending("l")})
        self.assertEqual(follows(program, 0), 1)
        self.assertEqual([points(program)[follows(program, point)] for point in (2, 3, 4)],
            [row("v"), row("x"), ending("l")])

    def test_stop_from_anywhere(self):
        program = Program(["a"], [("loop", "l", [], [("if", "i", [], [("stop", "x")], [("call", "c", "q")])]),
            ("show", "w", "a")],
                          parts={"q": [("loop", "m", [], [("stop", "y")])]})
        self.goes(program, {row("x"): END, row("y", "c"): END})

    def test_call(self):
        program = Program(["a"], [("call", "c", "q"), ("call", "d", "q"), ("show", "w", "a")],
                          parts={"q": [("show", "x", "a"), ("show", "y", "a")]})
        self.assertEqual(points(program), [
            row("c"), row("x", "c"), row("y", "c"), row("d"), row("x", "d"), row("y", "d"), row("w"), END,
        ])
        self.goes(program, {
            row("c"): row("x", "c"), row("x", "c"): row("y", "c"), row("y", "c"): row("d"), row("d"): row("x", "d"),
            row("y", "d"): row("w"),
        })

    def test_call_of_a_part_without_rows(self):
        program = Program(["a"], [("loop", "l", [], [("call", "c", "q")]), ("call", "d", "q")], parts={"q": []})
        self.assertEqual(points(program), [row("l"), row("c"), ending("l"), row("d"), END])
        self.goes(program, {row("c"): ending("l"), row("d"): END})

    def test_back(self):
        program = Program(["a"], [("loop", "l", [], [("call", "c", "p")]), ("call", "d", "q"), ("show", "w", "a")],
            parts={
            "p": [("loop", "m", [], [("if", "i", [], [], [("back", "x")])]), ("call", "e", "q"), ("show", "z", "a")],
            "q": [("back", "y")],
        })
        self.goes(program, {
            row("x", "c"): ending("l"), row("y", "c", "e"): row("z", "c"), row("y", "d"): row("w"),
            row("m", "c"): {False: row("e", "c"), True: row("i", "c")}, row("z", "c"): ending("l"),
            row("e", "c"): row("y", "c", "e"), row("i", "c"): {False: row("x", "c"), True: ending("m", "c")},
        })

    def test_call_at_the_end_of_a_block_of_an_if_in_a_loop_in_a_part(self):
        program = Program(["a"], [("call", "c", "p")], parts={
            "p": [("loop", "l", [], [("if", "i", [], [("call", "d", "q")], [("next", "n")])])],
            "q": [("show", "x", "a")],
        })
        self.assertEqual(points(program), [
            row("c"), row("l", "c"), row("i", "c"), row("d", "c"), row("x", "c", "d"), row("n", "c"), ending("l", "c"),
            END,
        ])
        self.goes(program, {
            row("x", "c", "d"): ending("l", "c"), row("n", "c"): ending("l", "c"), ending("l", "c"): row("l", "c"),
            row("l", "c"): {False: END, True: row("i", "c")},
        })

    def test_text_order_of_parts_plays_no_part(self):
        program = Program(["a"], [("call", "c", "z"), ("call", "d", "b")],
                          parts={"b": [("show", "x", "a")], "z": [("show", "y", "a")]})
        self.assertEqual(points(program), [row("c"), row("y", "c"), row("d"), row("x", "d"), END])


class AllPrograms(Case):
    def test_against_a_second_look(self):
        for program in [*samples().values(), *Maker(3).programs(150)]:
            plain = Ways(program)
            listed = points(program)
            self.assertEqual(listed, list(plain.paths))
            self.assertIs(listed.__class__, list)
            for number, point in enumerate(listed):
                told = {answer: listed[aim] for answer, aim in ways(program, number).items()}
                self.assertEqual(told, plain.whole_ways(point), (program, point))
                if point[0] == "row":
                    self.assertEqual(listed[follows(program, number)], plain.follows(plain.paths[point]))
                    self.assertEqual(point_of(program, point[1], point[2]), number)
                else:
                    self.raised(InvalidPoint, {"value": number}, follows, program, number)

    def test_answers_are_no_integers(self):
        for program in samples().values():
            for number in range(len(points(program))):
                for answer, aim in ways(program, number).items():
                    self.assertIn(answer.__class__, (bool, None.__class__))
                    self.assertIs(aim.__class__, int)


class Errors(Case):
    def test_no_program(self):
        for value in [*OTHERS, 1, "small", [], small]:
            for action, more in ((points, []), (point_of, [7, 7]), (ways, [None]), (follows, [None])):
                self.raised(InvalidProgram, {"value": value}, action, value, *more)

    def test_no_point(self):
        for value in [*OTHERS, 5, 6, 999999999, -1, "0", [0], (0,), row("l")]:
            self.raised(InvalidPoint, {"value": value}, ways, small(), value)
            self.raised(InvalidPoint, {"value": value}, follows, small(), value)

    def test_ends_follow_nothing(self):
        for value in (2, 4):
            self.raised(InvalidPoint, {"value": value}, follows, small(), value)
        self.assertEqual([follows(small(), point) for point in (0, 1, 3)], [3, 2, 4])

    def test_labels_that_are_none(self):
        for value in [*OTHERS, 1, 0, "a", "x", ["l"], ("l",)]:
            self.raised(UnknownLabel, {"value": value}, point_of, small(), value)
            self.raised(UnknownLabel, {"value": value}, point_of, small(), value, "z")

    def test_point_of(self):
        program = samples()["calls"]
        for label, calls in (("l", ()), ("d", ()), ("s", ("c",)), ("s", ("d",)), ("y", ("c", "f")), ("y", ("d", "f"))):
            self.assertEqual(points(program)[point_of(program, label, calls)], row(label, *calls))
        self.assertEqual(point_of(program, "l"), point_of(program, label="l", calls=()))

    def test_calls_that_lead_nowhere(self):
        program = samples()["calls"]
        for label, calls in (
            ("l", ("c",)), ("s", ()), ("s", ("e",)), ("s", ("l",)), ("s", ("f",)), ("y", ("f",)), ("y", ("c",)),
            ("y", ("f", "c")), ("y", ("c", "f", "f")), ("s", ("q",)), ("s", ("z",)), ("s", ["c"]), ("l", []),
            ("s", "c"), ("l", ""), ("l", None), ("l", False), ("l", {}), ("s", (["c"],)), ("s", (None,)), ("s", (1,)),
            ("s", (("c",),)), ("s", {"c"}), ("s", {"c": 1}),
        ):
            self.raised(UnknownName, {"value": calls}, point_of, program, label, calls)
        for value in OTHERS:
            self.raised(UnknownName, {"value": value}, point_of, program, "l", value)
            self.raised(UnknownName, {"value": (value,)}, point_of, program, "s", (value,))
        self.raised(UnknownName, {"value": ()}, point_of, program, "s")


class NothingChanges(Case):
    def test_what_is_told_can_be_changed(self):
        program = small()
        points(program).clear()
        ways(program, 0).clear()
        ways(program, 0)[True] = 4
        self.assertEqual(len(points(program)), 5)
        self.assertEqual(ways(program, 0), {False: 3, True: 1})


if __name__ == "__main__":
    unittest.main()

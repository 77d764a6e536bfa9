"""The ways of cut programs, where they begin, stay and show, against a second look at all points."""

import inspect
import unittest

from cutshows import rounds
from cutshows.cuts import all_closed, cut_program
from cutshows.errors import InvalidLabels, InvalidPoint, InvalidProgram, NotClosed
from cutshows.points import points, ways
from cutshows.programs import Program
from cutshows.rounds import can_show, cut_ways, first_point, is_round
from tests.common import OTHERS, Case, Maker, samples, small
from tests.plainly import Ways

# Points: 0 o, 1 l, 2 s, 3 pass l, 4 w, 5 pass o, 6 m, 7 pass m, 8 x, 9 end
NESTED = Program(["a"], [
    ("loop", "o", [], [("loop", "l", [], [("set", "s", "a", [])]), ("show", "w", "a")]), ("loop", "m", [], []),
    ("set", "x", "a", []),
])


def some_cuts(maker, program):
    return [[], *[maker.cut(program) for _ in range(3)]]


class Interface(Case):
    def test_each_is_defined_in_its_file(self):
        for function, more in ((cut_ways, ["point"]), (first_point, []), (is_round, ["point", "other"]),
            (can_show, ["point"])):
            self.assertEqual(function.__module__, rounds.__name__)
            self.assertEqual(list(inspect.signature(function).parameters), ["program", "labels", *more])


class CutWays(Case):
    def test_left_out_places_are_passed_over(self):
        program = small()
        self.assertEqual([cut_ways(program, ["s"], point) for point in (0, 2, 3, 4)],
            [{False: 3, True: 2}, {None: 0}, {None: 4}, {}])
        self.assertEqual([cut_ways(program, ["w"], point) for point in (0, 1, 2, 4)],
            [{False: 4, True: 1}, {None: 2}, {None: 0}, {}])
        self.assertEqual(list(cut_ways(program, ["s"], 0)), [False, True])

    def test_several_left_out_places_in_sequence(self):
        program = Program(["a"], [
            ("if", "i", [], [("show", "u", "a"), ("show", "v", "a")], []), ("show", "w", "a"),
            ("loop", "l", [], [("show", "x", "a")]),
        ])
        # 0 i, 1 u, 2 v, 3 w, 4 l, 5 x, 6 pass l, 7 end
        self.assertEqual(cut_ways(program, list("uvwlx"), 0), {False: 7, True: 7})
        self.assertEqual(cut_ways(program, list("uvw"), 0), {False: 4, True: 4})
        self.assertEqual(cut_ways(program, list("uw"), 0), {False: 4, True: 2})
        self.assertEqual(first_point(program, list("iuvw")), 4)
        self.assertEqual(first_point(program, list("iuvwlx")), 7)
        self.assertEqual(first_point(program, list("uv")), 0)

    def test_calls_that_are_left_out(self):
        program = Program(["a"], [("call", "c", "q"), ("show", "w", "a"), ("call", "d", "q")],
            parts={"q": [("show", "x", "a")]})
        # 0 c, 1 x by c, 2 w, 3 d, 4 x by d, 5 end
        self.assertEqual(first_point(program, ["c"]), 2)
        self.assertEqual([cut_ways(program, ["c"], point) for point in (2, 3, 4)], [{None: 3}, {None: 4}, {None: 5}])
        for point in (0, 1):
            self.raised(InvalidPoint, {"value": point}, cut_ways, program, ["c"], point)
        # The row of the part is left out wherever the part is called.
        self.assertEqual([cut_ways(program, ["x"], point) for point in (0, 2, 3)], [{None: 2}, {None: 3}, {None: 5}])
        self.assertEqual(cut_ways(program, ["d", "c", "x"], 2), {None: 5})

    def test_jumps_past_left_out_rows(self):
        program = Program(["a"], [
            ("loop", "o", [], [("loop", "l", [], [("leave", "v")]), ("show", "w", "a"), ("show", "y", "a")]),
            ("show", "x", "a"),
        ])
        # 0 o, 1 l, 2 v, 3 pass l, 4 w, 5 y, 6 pass o, 7 x, 8 end
        self.assertEqual(cut_ways(program, ["w"], 2), {None: 5})
        self.assertEqual(cut_ways(program, ["w", "y"], 2), {None: 6})
        self.assertEqual(cut_ways(program, ["x"], 0), {False: 8, True: 1})
        self.assertEqual(cut_ways(program, ["v", "x"], 1), {False: 4, True: 3})

    def test_ends_of_passes_of_left_out_loops(self):
        for point in (1, 2, 3):
            self.raised(InvalidPoint, {"value": point}, cut_ways, NESTED, ["l", "s"], point)
        self.assertEqual(cut_ways(NESTED, ["l", "s"], 0), {False: 6, True: 4})
        self.assertEqual(cut_ways(NESTED, ["s", "l", "w"], 0), {False: 6, True: 5})
        program = samples()["calls"]
        for point, told in enumerate(points(program)):
            if told in (("pass", "m", ("c",)), ("row", "m", ("c",)), ("row", "s", ("c",))):
                self.raised(InvalidPoint, {"value": point}, cut_ways, program, ["c"], point)

    def test_against_a_second_look_and_the_cut_program(self):
        maker = Maker(9)
        for program in [*samples().values(), *maker.programs(80)]:
            for cut in some_cuts(maker, program):
                plain = Ways(program, cut)
                listed = points(program)
                rest = cut_program(program, cut)
                kept = points(rest)
                self.assertEqual([told for told in listed if not plain.is_left_out(told)], kept)
                self.assertEqual(listed[first_point(program, cut)], plain.first())
                self.assertEqual(listed[first_point(program, cut)], kept[0])
                for number, told in enumerate(listed):
                    if plain.is_left_out(told):
                        for action in (cut_ways, can_show):
                            self.raised(InvalidPoint, {"value": number}, action, program, cut, number)
                        self.raised(InvalidPoint, {"value": number}, is_round, program, cut, number, 0)
                        continue
                    found = {answer: listed[aim] for answer, aim in cut_ways(program, cut, number).items()}
                    self.assertEqual(found, plain.ways(told))
                    self.assertEqual(found, {
                        answer: kept[aim] for answer, aim in ways(rest, kept.index(told)).items()
                    })

    def test_nothing_left_out(self):
        for program in samples().values():
            self.assertEqual(first_point(program, ()), 0)
            for point in range(len(points(program))):
                self.assertEqual(cut_ways(program, [], point), ways(program, point))

    def test_what_is_told_can_be_changed(self):
        cut_ways(NESTED, [], 0).clear()
        self.assertEqual(cut_ways(NESTED, [], 0), {False: 6, True: 1})


class Round(Case):
    def rounds(self, labels, point):
        """The other points below which it is round."""
        return [other for other in range(10) if is_round(NESTED, labels, point, other)]

    def test_nested_loops(self):
        # The inner loop alone has the points 1 to 3, the outer one 0 to 5; that of one row 6 and 7.
        self.assertEqual([self.rounds([], point) for point in range(10)], [
            [6, 7, 8, 9], [4, 5, 6, 7, 8, 9], [4, 5, 6, 7, 8, 9], [4, 5, 6, 7, 8, 9], [6, 7, 8, 9], [6, 7, 8, 9],
            [8, 9], [8, 9], [], [],
        ])

    def test_cut_ones(self):
        self.assertEqual(self.rounds(["s"], 1), [4, 5, 6, 7, 8, 9])
        self.assertEqual(self.rounds(["l", "s"], 0), [6, 7, 8, 9])
        self.assertEqual(self.rounds(["m"], 8), [])
        # Without the inner loop there is only the way through the outer one.
        self.assertEqual(self.rounds(["l", "s"], 4), [6, 7, 8, 9])

    def test_other_may_be_left_out(self):
        for other in (4, 6, 7):
            self.assertTrue(is_round(NESTED, ["m", "w"], 1, other))
        self.assertFalse(is_round(NESTED, ["m", "w"], 1, 3))

    def test_the_point_is_less_than_the_other(self):
        for point in range(10):
            for other in range(point + 1):
                self.assertIs(is_round(NESTED, [], point, other), False)

    def test_jumps_make_and_end_rounds(self):
        next_ahead = Program(["a"], [("loop", "l", [], [("if", "i", [], [("next", "n")], []), ("show", "w", "a")])])
        # 0 l, 1 i, 2 n, 3 w, 4 pass l, 5 end: each way back goes by the end of the pass.
        self.assertEqual([other for other in range(6) if is_round(next_ahead, [], 1, other)], [5])
        leaving = Program(["a"], [("loop", "l", [], [("leave", "v")]), ("show", "w", "a")])
        self.assertFalse(is_round(leaving, [], 0, 4))
        self.assertTrue(is_round(leaving, ["v"], 0, 4))
        self.assertFalse(is_round(leaving, [], 1, 4))
        # From the end of a pass that is never reached there are ways, but not back to it.
        self.assertFalse(is_round(leaving, [], 2, 4))

    def test_against_a_second_look(self):
        maker = Maker(10)
        for program in [NESTED, *samples().values(), *maker.programs(40)]:
            for cut in some_cuts(maker, program):
                self.compare(program, cut)

    def compare(self, program, cut):
        plain = Ways(program, cut)
        listed = points(program)
        number = {told: point for point, told in enumerate(listed)}
        for told in listed:
            if plain.is_left_out(told):
                continue
            for other in range(len(listed)):
                found = number[told] < other and told in plain.spread(told, lambda aim: number[aim] < other)
                self.assertIs(is_round(program, cut, number[told], other), found)
            shows = [point for point in listed if point[0] == "row" and program[point[1]][0] == "show"]
            reached = plain.spread(told, lambda aim: True) | {told}
            self.assertIs(can_show(program, cut, number[told]), any(point in reached for point in shows))


class CanShow(Case):
    def test_at_ahead_of_and_behind_shows(self):
        self.assertEqual([can_show(NESTED, [], point) for point in range(10)], [True] * 6 + [False] * 4)
        self.assertEqual([can_show(NESTED, ["w"], point) for point in (0, 1, 2, 3, 5, 6, 7, 8, 9)], [False] * 9)

    def test_at_one_that_leads_to_no_other(self):
        program = Program(["a"], [("set", "s", "a", []), ("show", "x", "a"), ("set", "t", "a", [])])
        self.assertEqual([can_show(program, (), point) for point in range(4)], [True, True, False, False])

    def test_behind_a_stop(self):
        program = Program(["a"], [("stop", "h"), ("show", "x", "a")])
        self.assertEqual([can_show(program, [], point) for point in range(3)], [False, True, False])
        self.assertIs(can_show(program, ["h"], 1), True)

    def test_in_a_part(self):
        program = Program(["a"], [("call", "c", "q"), ("set", "s", "a", [])], parts={"q": [("show", "x", "a")]})
        self.assertEqual([can_show(program, [], point) for point in range(4)], [True, True, False, False])
        self.assertEqual(can_show(program, ["x"], 0), False)


class Errors(Case):
    actions = ((cut_ways, 1), (first_point, 0), (is_round, 2), (can_show, 1))

    def test_which_comes_first(self):
        for action, many in self.actions:
            more = [None] * many
            for value in [*OTHERS, 1, [], small]:
                self.raised(InvalidProgram, {"value": value}, action, value, 1, *more)
            for value in [*OTHERS, 1, "s"]:
                self.raised(InvalidLabels, {"position": None}, action, small(), value, *more)
            self.raised(InvalidLabels, {"position": 1}, action, small(), ["l", "z"], *more)
            self.raised(InvalidLabels, {"position": 1}, action, small(), ["s", "s"], *more)
            self.raised(NotClosed, {"label": "s"}, action, small(), ["l"], *more)
            self.raised(NotClosed, {"label": "s"}, action, small(), ("w", "l"), *more)

    def test_no_point(self):
        for value in [*OTHERS, 5, 6, -1, 999999999, "0", [0], (0,), ("row", "l", ())]:
            for action, many in self.actions:
                if many:
                    self.raised(InvalidPoint, {"value": value}, action, small(), ["s"], value, *[None] * (many - 1))
            self.raised(InvalidPoint, {"value": value}, is_round, small(), ["s"], 0, value)

    def test_left_out_points(self):
        self.raised(InvalidPoint, {"value": 1}, cut_ways, small(), ["s"], 1)
        self.raised(InvalidPoint, {"value": 1}, can_show, small(), ["s"], 1)
        self.raised(InvalidPoint, {"value": 1}, is_round, small(), ["s"], 1, "z")
        self.raised(InvalidPoint, {"value": 2}, is_round, small(), ["s", "l"], 2, 4)
        self.assertIs(is_round(small(), ["s"], 0, 1), False)
        self.assertIs(is_round(program=small(), labels=["s"], point=0, other=3), True)


class AllCuts(Case):
    def test_rounds_of_all_closed_cuts_are_those_of_the_cut_programs(self):
        for name in ("small", "hollow", "twoloops"):
            program = samples()[name]
            listed = points(program)
            for cut in all_closed(program):
                rest = cut_program(program, cut)
                kept = points(rest)
                for told in kept:
                    for other in kept:
                        self.assertIs(
                            is_round(program, cut, listed.index(told), listed.index(other)),
                            is_round(rest, [], kept.index(told), kept.index(other)),
                        )
                    self.assertIs(can_show(program, cut, listed.index(told)), can_show(rest, [], kept.index(told)))


if __name__ == "__main__":
    unittest.main()

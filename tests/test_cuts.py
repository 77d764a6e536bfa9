"""Cuts: which are closed, the least closed ones, all of them, and what is left of a program."""

import inspect
import itertools
import unittest

from cutshows import cuts
from cutshows.cuts import all_closed, closed_of, cut_program, is_closed
from cutshows.errors import InvalidLabels, InvalidProgram, NotClosed
from cutshows.points import points
from cutshows.programs import Program
from cutshows.runs import Run
from tests.common import OTHERS, Case, Maker, samples, small
from tests.plainly import Doing

SHOW = ("show", "x", "a")


def called_by(program, labels, home):
    """The parts that rows of the main rows ("") or a part call that are not among the labels."""
    block = program.parts()[home] if home else program.rows()
    return {program[label][2] for label in program.labels()
            if program.part_of(label) == home and program[label][0] == "call" and label not in labels and block}


def is_shut(program, labels):
    """Whether a set of labels is closed, straight from [41]."""
    for label in labels:
        if not set(program.within(label)) <= set(labels):
            return False
    reached = {""}
    for _ in program.parts():
        reached |= {part for home in reached for part in called_by(program, labels, home)}
    return all(label in labels for label in program.labels() if program.part_of(label) not in reached)


def all_shut(program):
    told = program.labels()
    sets = [subset for many in range(len(told) + 1) for subset in itertools.combinations(told, many)]
    return sorted(sorted(subset) for subset in sets if is_shut(program, subset))


def programs_with_few_rows():
    made = [program for program in Maker(6).programs(120) if len(program) <= 7]
    return [program for program in samples().values() if len(program) <= 8] + made


class Examples(Case):
    def test_word_for_word(self):
        self.word_for_word("""
            >>> from cutshows.programs import Program
            >>> small = Program(["a", "b"], [("loop", "l", ["a"], [("set", "s", "a", ["a"])]), ("show", "w", "b")])
            >>> from cutshows.cuts import closed_of
            >>> from cutshows.plays import Play
            >>> played = Play(small, ["s"], [("l", (1,))], [("l", (1,)), ("l", (2,))])
            >>> [closed_of(small, ["l"]), played.unlike(), played.yes_lists()]
            [['l', 's'], [], ([('l', (1,))], [('l', (1,)), ('l', (2,))])]
        """, 6, "Stage 4")


class Interface(Case):
    def test_each_is_defined_in_its_file(self):
        for function in (is_closed, closed_of, all_closed, cut_program):
            self.assertEqual(function.__module__, cuts.__name__)
            parameters = ["program"] if function is all_closed else ["program", "labels"]
            self.assertEqual(list(inspect.signature(function).parameters), parameters)
        self.assertTrue(inspect.isgeneratorfunction(all_closed))


class Closed(Case):
    def closed(self, program, labels, least):
        """The least closed cut with the labels is this one."""
        least = sorted(least)
        for told in (list(labels), tuple(labels), list(labels)[::-1]):
            self.assertEqual(closed_of(program, told), least)
            self.assertIs(closed_of(program, told).__class__, list)
            self.assertIs(is_closed(program, told), sorted(labels) == least)
        self.assertIs(is_closed(program, least), True)

    def test_nothing_and_everything(self):
        for program in [*samples().values(), *Maker(7).programs(30)]:
            self.closed(program, [], [])
            self.closed(program, program.labels(), program.labels())

    def test_ifs_and_loops(self):
        program = samples()["jumps"]
        self.closed(program, "l", "linjvc" + "kems")
        self.closed(program, "i", "injv")
        self.closed(program, "j", "jv")
        self.closed(program, "jn", "jvn")
        self.closed(program, "vkw", "vkew")
        self.closed(program, "nvems", "nvems")

    def test_calls(self):
        program = samples()["calls"]
        self.closed(program, "c", "c")
        self.closed(program, "d", "d")
        self.closed(program, "e", "e")
        self.closed(program, "cd", "cdmsftizy")
        self.closed(program, "cl", "cldmsftizy")
        self.closed(program, "f", "ftizy")
        self.closed(program, "m", "ms")
        self.closed(program, "i", "izy")

    def test_parts_that_no_kept_call_reaches_through_another_part(self):
        program = Program(["a"], [("call", "c", "p"), ("loop", "l", [], [("call", "d", "r")])], parts={
            "p": [("call", "e", "q")], "q": [("if", "i", [], [SHOW], [])], "r": [("call", "f", "q"), ("stop", "h")],
        })
        self.closed(program, "c", "ce")
        self.closed(program, "d", "dfh")
        self.closed(program, "l", "ldfh")
        self.closed(program, "cd", "cdefhix")
        self.closed(program, "cf", "cefix")
        self.closed(program, "ef", "efix")
        self.closed(program, "e", "e")
        self.closed(program, "i", "ix")

    def test_parts_that_are_called_by_left_out_parts_alone(self):
        program = Program(["a"], [("call", "c", "p"), ("call", "d", "q")],
            parts={"p": [("call", "e", "q")], "q": [SHOW]})
        self.closed(program, "d", "d")
        self.closed(program, "de", "dex")
        self.closed(program, "c", "ce")
        # The call of q in p is not left out, but nothing leads to it.
        self.closed(program, "cd", "cdex")

    def test_calls_that_are_never_done_are_calls(self):
        program = Program(["a"], [("call", "c", "p"), ("stop", "h"), ("call", "d", "p")], parts={"p": [SHOW]})
        self.closed(program, "c", "c")
        self.closed(program, "cd", "cdx")

    def test_against_a_direct_look(self):
        for program in programs_with_few_rows():
            shut = all_shut(program)
            found = list(all_closed(program))
            self.assertEqual(found, shut)
            self.assertTrue(all(cut.__class__ is list for cut in found))
            told = program.labels()
            for many in range(len(told) + 1):
                for subset in itertools.combinations(told, many):
                    self.assertEqual(is_closed(program, subset), sorted(subset) in shut)
                    above = [cut for cut in shut if set(subset) <= set(cut)]
                    least = closed_of(program, subset)
                    self.assertIn(least, above)
                    self.assertTrue(all(set(least) <= set(cut) for cut in above))

    def test_all_closed(self):
        self.assertEqual(list(all_closed(Program(["a"]))), [[]])
        self.assertEqual(list(all_closed(small())), [[], ["l", "s"], ["l", "s", "w"], ["s"], ["s", "w"], ["w"]])
        rows = [("show", label, "a") for label in "lkjihgfedcba"]
        found = list(all_closed(Program(["a"], rows)))
        self.assertEqual([len(found), found[:4], found[-2:]],
            [4096, [[], ["a"], ["a", "b"], ["a", "b", "c"]], [["k", "l"], ["l"]]])
        self.assertEqual(found, sorted(found))

    def test_cuts_that_are_told_can_be_changed(self):
        found = []
        for cut in all_closed(small()):
            found.append(list(cut))
            cut.append("z")
        self.assertEqual(found, list(all_closed(small())))
        closed_of(small(), ["l"]).clear()
        self.assertEqual(closed_of(small(), ["l"]), ["l", "s"])


class Rest(Case):
    def test_nothing_is_left_out(self):
        for program in samples().values():
            rest = cut_program(program, [])
            self.assertEqual(rest, program)
            self.assertIs(rest.__class__, Program)

    def test_everything_is_left_out(self):
        for program in samples().values():
            rest = cut_program(program, program.labels())
            self.assertEqual(rest, Program(program.boxes(), pointers=program.pointers()))

    def test_rows_and_parts(self):
        program = samples()["calls"]
        self.assertEqual(cut_program(program, ["d", "s", "z"]), Program(["a", "b"], [
            ("call", "c", "p"), ("loop", "l", ["a"], []), ("call", "e", "r"), ("show", "w", "b"),
        ], parts={
            "p": [("loop", "m", ["b"], []), ("call", "f", "q")],
            "q": [("copy", "t", "a", "b"), ("if", "i", ["a"], [], [("back", "y")])],
            "r": [],
        }))
        self.assertEqual(cut_program(program, tuple("ftizy")), Program(["a", "b"], [
            ("call", "c", "p"), ("loop", "l", ["a"], [("call", "d", "p")]), ("call", "e", "r"), ("show", "w", "b"),
        ], parts={"p": [("loop", "m", ["b"], [("set", "s", "b", ["a"])])], "r": []}))

    def test_parts_without_rows(self):
        program = samples()["calls"]
        self.assertEqual(list(cut_program(program, ["e"]).parts()), ["p", "q"])
        # All rows of q are left out, but it is still called.
        self.assertEqual(cut_program(program, list("tizy")).parts()["q"], [])
        self.assertEqual(list(cut_program(program, list("ftizy")).parts()), ["p", "r"])

    def test_boxes_and_pointers_stay(self):
        program = samples()["pointed"]
        rest = cut_program(program, list("mnstwx"))
        self.assertEqual([rest.boxes(), rest.pointers(), rest.labels()], [["a", "b", "c"], {"p": "a", "q": "c"}, []])
        self.assertEqual(cut_program(program, list("mst")).labels(), ["n", "w", "x"])

    def test_jumps(self):
        program = samples()["jumps"]
        self.assertEqual(cut_program(program, ["v", "e"]), Program(["a", "b"], [
            ("loop", "l", ["a"], [("if", "i", ["a", "p"], [("next", "n")], [("if", "j", [], [], [])]),
            ("call", "c", "q")]),
            ("show", "w", "a"),
        ], pointers={"p": "a"},
        parts={"q": [("if", "k", ["b"], [], []), ("point", "m", "p", "b"), ("set", "s", "p", ["a"])]}))

    def test_it_does_what_the_rows_do_that_are_left(self):
        maker = Maker(8)
        for program in [*samples().values(), *maker.programs(100)]:
            for cut in [maker.cut(program) for _ in range(3)]:
                rest = cut_program(program, cut)
                self.assertEqual(rest.labels(), [label for label in program.labels() if label not in cut])
                yes = maker.yes(rest)
                run, doing = Run(rest, yes), Doing(program, yes, cut)
                listed = points(rest)
                for point, where, _, _ in doing.visits:
                    self.assertEqual((listed[run.point], run.where), (point, where))
                    if not run.is_over:
                        run.move()
                self.assertEqual([told[:2] for told in run.shown()], [told[:2] for told in doing.shown])

    def test_the_program_stays(self):
        program = samples()["calls"]
        before = repr(program)
        labels = list("ftizy")
        cut_program(program, labels)
        self.assertEqual([repr(program), labels], [before, list("ftizy")])


class Errors(Case):
    def test_no_program(self):
        for value in [*OTHERS, 1, [], "small", small]:
            for action in (is_closed, closed_of, cut_program):
                self.raised(InvalidProgram, {"value": value}, action, value, None)
            self.raised(InvalidProgram, {"value": value}, lambda told: list(all_closed(told)), value)

    def test_no_list(self):
        for value in [*OTHERS, 1, "l", small()]:
            for action in (is_closed, closed_of, cut_program):
                self.raised(InvalidLabels, {"position": None}, action, small(), value)

    def test_wrong_labels(self):
        for action in (is_closed, closed_of, cut_program):
            for value in [*OTHERS, 1, 0, "x", "a", "ls", ["l"], ("l",), []]:
                for labels in ([value, 1], (value,)):
                    self.raised(InvalidLabels, {"position": 0}, action, small(), labels)
                self.raised(InvalidLabels, {"position": 1}, action, small(), ["l", value, "l"])
                self.raised(InvalidLabels, {"position": 3}, action, small(), ("s", "w", "l", value))
            self.raised(InvalidLabels, {"position": 1}, action, small(), ["l", "l", 1])
            self.raised(InvalidLabels, {"position": 2}, action, small(), ["l", "s", "l"])
            self.raised(InvalidLabels, {"position": 2}, action, small(), ["s", "l", "l"])

    def test_not_closed(self):
        program = samples()["calls"]
        for labels, least in (("l", "d"), ("cd", "f"), ("cdmsf", "i"), ("i", "y"), ("iy", "z"), ("cdmsftiz", "y"),
            ("mlc", "d")):
            for told in (list(labels), tuple(labels), list(labels)[::-1]):
                self.raised(NotClosed, {"label": least}, cut_program, program, told)
        self.raised(InvalidLabels, {"position": 1}, cut_program, program, ["l", "l"])


if __name__ == "__main__":
    unittest.main()

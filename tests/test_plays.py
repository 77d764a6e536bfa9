"""Plays: of one world and not, what both sides show, and which vows are kept."""

import inspect
import itertools
import unittest

from cutshows import plays
from cutshows.cuts import closed_of, cut_program
from cutshows.errors import InvalidLabels, InvalidProgram, InvalidVow, InvalidYes, NotClosed, TwoWorlds
from cutshows.plays import Play
from cutshows.programs import Program
from cutshows.runs import Run
from tests.common import OTHERS, Case, Maker, samples, small
from tests.plainly import Doing

L1, L2, L3 = ("l", (1,)), ("l", (2,)), ("l", (3,))


def two_worlds(program, cut, whole_yes, cut_yes):
    """The first label and where of two worlds, from a second look, or None."""
    whole, other = Doing(program, whole_yes), Doing(program, cut_yes, cut)
    for label, where, reads, answer in whole.asked:
        if (label, where, reads, not answer) in other.asked:
            return label, where
    return None


def made_plays(seed, many):
    """Tuples of a program, a closed cut and two yes lists, of one world and not."""
    maker = Maker(seed)
    for program in [*samples().values(), *maker.programs(many)]:
        for cut in ([], maker.cut(program), maker.cut(program)):
            whole_yes = maker.yes(program)
            rest = cut_program(program, cut)
            asked = rest.tests()
            copied = [told for told in whole_yes if told[0] in asked]
            for cut_yes in ([], copied, maker.yes(rest), copied + maker.yes(rest, 2)):
                yield program, cut, whole_yes, cut_yes


class Interface(Case):
    def test_each_stands_in_its_file_and_class(self):
        self.assertEqual(Play.__module__, plays.__name__)
        self.assertEqual(Play.__mro__, (Play, object))
        for name in ("program", "left_out"):
            self.assertIsInstance(vars(Play)[name], property)
        for name in "__init__ yes_lists whole_shown cut_shown unlike keeps __eq__".split():
            self.assertIn(name, vars(Play))
        self.assertEqual(list(inspect.signature(Play).parameters), ["program", "labels", "whole_yes", "cut_yes"])
        self.assertEqual(list(inspect.signature(Play.keeps).parameters), ["self", "vow"])


class OneWorld(Case):
    def test_the_same_question_and_unlike_answers(self):
        for whole, cut in (([L1], []), ([], [L1])):
            self.raised(TwoWorlds, {"label": "l", "passes": (1,)}, Play, small(), ["s"], whole, cut)
        self.raised(TwoWorlds, {"label": "l", "passes": (2,)}, Play, small(), ["w"], [L1, L2], [L1])
        self.raised(TwoWorlds, {"label": "l", "passes": (1,)}, Play, small(), ["w"], [L1, L2], [])

    def test_other_values_read(self):
        # Behind the set the whole program reads another value.
        for whole, cut in (([L1], [L1, L2]), ([L1, L2], [L1]), ([L1], [L1]), ([L1, L2, L3], [L1, L2])):
            Play(small(), ["s"], whole, cut)

    def test_questions_of_one_side_alone(self):
        Play(small(), ["l", "s"], [L1, L2], [])
        program = Program(["a"], [("if", "i", ["a"], [("if", "j", ["a"], [], [])], []), ("set", "s", "a", [])])
        self.raised(TwoWorlds, {"label": "i", "passes": ()}, Play, program, [], [("i", ()), ("j", ())], [])

    def test_the_first_in_the_sequence_in_which_the_whole_program_asks(self):
        program = Program(["a"], [("call", "d", "q"), ("if", "b", [], [], []), ("if", "a", [], [], []),
            ("set", "s", "a", [])],
                          parts={"q": [("if", "z", [], [], [])]})
        told = [("z", ("d",)), ("b", ()), ("a", ())]
        for whole in itertools.chain(*(itertools.combinations(told, many) for many in range(4))):
            for cut in itertools.chain(*(itertools.combinations(told, many) for many in range(4))):
                unlike = [one for one in told if (one in whole) != (one in cut)]
                if unlike:
                    self.raised(TwoWorlds, {"label": unlike[0][0], "passes": unlike[0][1]}, Play, program, ["s"], whole,
                        cut)
                else:
                    Play(program, ["s"], whole, cut)

    def test_values_one_by_one_in_their_sequence(self):
        program = Program(["a", "b", "c"], [
            ("copy", "x", "c", "a"), ("copy", "y", "a", "b"), ("copy", "z", "b", "c"), ("if", "i", ["a", "b"], [], []),
        ])
        # The whole program reads the values of a and b the other way round.
        for whole, cut in (([("i", ())], []), ([], [("i", ())]), ([], [])):
            Play(program, ["x", "y", "z"], whole, cut)
        program = Program(["a", "b"], [("set", "s", "a", []), ("if", "i", ["b", "b"], [], [])])
        self.raised(TwoWorlds, {"label": "i", "passes": ()}, Play, program, ["s"], [], [("i", ())])
        program = Program(["a", "b"], [("set", "s", "a", []), ("if", "i", ["b", "a"], [], [])])
        Play(program, ["s"], [], [("i", ())])

    def test_results_of_the_same_question_are_the_same(self):
        program = Program(["a", "b"], [("set", "s", "a", ["b"]), ("set", "t", "b", ["b"]), ("if", "i", ["a"], [], [])])
        self.raised(TwoWorlds, {"label": "i", "passes": ()}, Play, program, ["t"], [("i", ())], [])
        Play(program, ["s"], [("i", ())], [])

    def test_against_a_second_look(self):
        found = {True: 0, False: 0}
        for program, cut, whole_yes, cut_yes in made_plays(11, 60):
            told = two_worlds(program, cut, whole_yes, cut_yes)
            found[told is None] += 1
            if told is None:
                Play(program, cut, whole_yes, cut_yes)
            else:
                self.raised(TwoWorlds, {"label": told[0], "passes": told[1]}, Play, program, cut, whole_yes, cut_yes)
        self.assertGreater(min(found.values()), 50)


class Told(Case):
    def test_program_and_left_out(self):
        program = small()
        play = Play(program, ("w", "s", "l"), [], [])
        self.assertIs(play.program, program)
        self.assertEqual(play.left_out, ["l", "s", "w"])
        self.assertIs(play.left_out.__class__, list)
        self.assertEqual(Play(program, [], [], []).left_out, [])
        for name in ("program", "left_out"):
            with self.assertRaises(AttributeError):
                setattr(play, name, 1)

    def test_yes_lists(self):
        ten = [("l", (number,)) for number in range(1, 11)]
        play = Play(small(), ["s"], ten[::-1] + [L1, ("l", ()), ("l", (12,)), ("l", ("l",))], (L2, L1, L1, ("l", (4,))))
        # By their text the tenth comes right behind the first.
        whole, cut = play.yes_lists()
        self.assertEqual(whole, [("l", (number,)) for number in (1, 10, 2, 3, 4, 5, 6, 7, 8, 9)])
        self.assertEqual(cut, [L1, L2])
        self.assertIs(play.yes_lists().__class__, tuple)
        self.assertEqual([told.__class__ for told in play.yes_lists()], [list, list])

    def test_yes_lists_of_several_labels(self):
        program = samples()["calls"]
        whole = [("m", ("c", 1)), ("l", (1,)), ("m", (1, "d", 1)), ("i", ("c", "f")), ("m", ("d", 1))]
        self.assertEqual(Play(program, [], whole, whole).yes_lists()[0], [("i", ("c", "f")), ("m", ("c", 1))])
        whole.remove(("i", ("c", "f")))
        expected = [("l", (1,)), ("m", ("c", 1)), ("m", (1, "d", 1))]
        self.assertEqual(Play(program, [], whole, whole).yes_lists(), (expected, expected))

    def test_it_makes_the_same_play(self):
        for program, cut, whole_yes, cut_yes in made_plays(12, 40):
            if two_worlds(program, cut, whole_yes, cut_yes) is None:
                play = Play(program, cut, whole_yes, cut_yes)
                again = Play(program, play.left_out, *play.yes_lists())
                self.assertEqual(again, play)
                self.assertEqual(again.whole_shown(), play.whole_shown())
                self.assertEqual(again.unlike(), play.unlike())
                self.assertEqual(again.yes_lists(), play.yes_lists())

    def test_numbers_of_one_symbols(self):
        program = Program(["a", "b"], [
            ("set", "s", "a", ["a"]), ("set", "t", "b", ["b"]), ("set", "u", "b", ["a"]), ("show", "x", "a"),
            ("show", "y", "b"),
        ])
        play = Play(program, ["s"], [], [])
        # The whole program's results are 2, 3 and 4; the cut one's second result is of another question.
        self.assertEqual(play.whole_shown(), [("x", (), 2), ("y", (), 4)])
        self.assertEqual(play.cut_shown(), [("x", (), 0), ("y", (), 5)])
        self.assertEqual(play.unlike(), [("x", (), 2, 0), ("y", (), 4, 5)])
        play = Play(program, ["t"], [], [])
        self.assertEqual([play.whole_shown(), play.cut_shown(), play.unlike()],
            [[("x", (), 2), ("y", (), 4)]] * 2 + [[]])

    def test_against_a_second_look(self):
        many = 0
        for program, cut, whole_yes, cut_yes in made_plays(13, 60):
            if two_worlds(program, cut, whole_yes, cut_yes) is not None:
                continue
            many += 1
            play = Play(program, cut, whole_yes, cut_yes)
            whole, other = Doing(program, whole_yes), Doing(program, cut_yes, cut)
            numbers = other.numbers([whole])
            shown = [[(label, where, numbers[value]) for label, where, value in doing.shown] for doing in (whole,
                other)]
            self.assertEqual([play.whole_shown(), play.cut_shown()], shown)
            yes = tuple(
                sorted({told[:2] for told in doing.asked if told[3]}, key=repr) for doing in (whole, other)
            )
            self.assertEqual(play.yes_lists(), yes)
            self.compare_unlike(play, *shown)
        self.assertGreater(many, 100)

    def compare_unlike(self, play, whole, cut):
        told = {place: [None, None] for place in [(one[0], one[1]) for one in whole + cut]}
        for side, shown in enumerate((whole, cut)):
            for label, where, number in shown:
                told[(label, where)][side] = number
        unlike = [(*place, *numbers) for place, numbers in told.items() if numbers[0] != numbers[1]]
        self.assertEqual(play.unlike(), unlike)
        self.assertIs(play.keeps("shows"), set(whole) <= set(cut))
        self.assertIs(play.keeps("no more"), set(cut) <= set(whole))
        self.assertIs(play.keeps("ends"), True)


class Unlike(Case):
    def test_what_one_side_shows_alone(self):
        program = Program(["a", "b"], [
            ("set", "s", "a", []), ("if", "i", ["a"], [("show", "x", "b")], [("show", "y", "b")]), ("show", "z", "a"),
        ])
        play = Play(program, ["s"], [("i", ())], [])
        self.assertEqual(play.unlike(), [("x", (), 1, None), ("z", (), 2, 0), ("y", (), None, 1)])
        play = Play(program, ["s", "z"], [], [("i", ())])
        self.assertEqual(play.unlike(), [("y", (), 1, None), ("z", (), 2, None), ("x", (), None, 1)])

    def test_each_side_in_its_sequence(self):
        program = Program(["a"],
            [("loop", "l", ["a"], [("set", "s", "a", []), ("show", "z", "a"), ("show", "y", "a")])])
        play = Play(program, ["s"], [L1], [L1, L2, L3])
        self.assertEqual(play.unlike(), [
            ("z", (1,), 1, 0), ("y", (1,), 1, 0), ("z", (2,), None, 0), ("y", (2,), None, 0), ("z", (3,), None, 0),
            ("y", (3,), None, 0),
        ])
        self.assertEqual(Play(program, ["y", "z"], [L1], [L1]).unlike(), [("z", (1,), 1, None), ("y", (1,), 1, None)])

    def test_the_number_0_is_something(self):
        program = Program(["a", "b"], [("copy", "c", "a", "b"), ("show", "x", "a")])
        self.assertEqual(Play(program, ["x"], [], []).unlike(), [("x", (), 1, None)])
        self.assertEqual(Play(program, ["c"], [], []).unlike(), [("x", (), 1, 0)])
        self.assertEqual(Play(Program(["a"], [("show", "x", "a")]), ["x"], [], []).unlike(), [("x", (), 0, None)])


class Keeps(Case):
    def test_each_vow(self):
        program = Program(["a", "b"], [
            ("set", "s", "a", []), ("if", "i", ["a"], [("show", "x", "b")], []), ("copy", "c", "b", "b"),
            ("show", "w", "b"),
        ])

        def kept(labels, whole_yes, cut_yes):
            play = Play(program, labels, whole_yes, cut_yes)
            return [play.keeps(vow) for vow in ("shows", "no more", "ends")]
        yes = [("i", ())]
        self.assertEqual(kept([], [], []), [True, True, True])
        self.assertEqual(kept(["s"], yes, yes), [True, True, True])
        self.assertEqual(kept(["s"], yes, []), [False, True, True])
        self.assertEqual(kept(["s"], [], yes), [True, False, True])
        self.assertEqual(kept(["s", "w"], [], yes), [False, False, True])
        self.assertEqual(kept(["s", "c"], [], []), [True, True, True])

    def test_another_value(self):
        program = Program(["a", "b"], [("copy", "c", "a", "b"), ("show", "x", "a")])
        play = Play(program, ["c"], [], [])
        self.assertEqual([play.keeps(vow) for vow in ("shows", "no more", "ends")], [False, False, True])

    def test_no_vow(self):
        play = Play(small(), [], [], [])
        for value in [*OTHERS, 0, 1, "show", "Shows", "no  more", "nomore", "end", ["shows"], ("shows",),
            ("shows", "ends")]:
            self.raised(InvalidVow, {"value": value}, play.keeps, value)


class Equal(Case):
    def test_by_what_they_tell(self):
        one = Play(small(), ["s", "w"], [L1, L2], [L1])
        other = Play(small(), ("w", "s"), (L2, L1, L1, ("l", (9,))), (("l", ()), L1))
        self.assertTrue(one == other)
        self.assertFalse(one != other)

    def test_different_in_one_thing(self):
        one = Play(small(), ["s"], [L1, L2], [L1])
        for other in (
            Play(small(), ["s"], [L1, L2], [L1, L2]), Play(small(), ["s"], [L1, L2, L3], [L1]),
            Play(small(), ["s"], [L1], [L1]),
            Play(small(), ["s", "w"], [L1, L2], [L1]), Play(small(), ["l", "s"], [L1, L2], []),
            Play(Program(["a", "b"], [("loop", "l", ["a"], [("set", "s", "a", ["b"])]), ("show", "w", "b")]), ["s"],
            [L1, L2], [L1]),
        ):
            self.assertTrue(one != other)
            self.assertFalse(one == other)

    def test_values_of_other_kinds(self):
        one = Play(small(), [], [], [])
        for value in [None, 1, (), [], "play", one.yes_lists(), small(), Run(small()), Play, object()]:
            self.assertFalse(one == value)
            self.assertTrue(one != value)


class Errors(Case):
    def test_no_program(self):
        for value in [*OTHERS, 1, [], small]:
            self.raised(InvalidProgram, {"value": value}, Play, value, 1, 1, 1)

    def test_which_comes_first(self):
        self.raised(InvalidLabels, {"position": None}, Play, small(), 1, 1, 1)
        self.raised(InvalidLabels, {"position": 1}, Play, small(), ["l", "z"], 1, 1)
        # That the cut is not closed comes behind the yes list of the whole program, and ahead of the other one.
        self.raised(InvalidYes, {"position": None}, Play, small(), ["l"], 1, 1)
        self.raised(InvalidYes, {"position": 0}, Play, small(), ["l"], [1], 1)
        self.raised(NotClosed, {"label": "s"}, Play, small(), ["l"], [L1], 1)
        self.raised(NotClosed, {"label": "s"}, Play, small(), ["w", "l"], [], [1])
        self.raised(InvalidYes, {"position": None}, Play, small(), ["s"], [L1], 1)
        self.raised(InvalidYes, {"position": 1}, Play, small(), ["s"], [L1], [L1, ("l", (0,))])

    def test_yes_lists(self):
        for value in [*OTHERS, 1, "l"]:
            self.raised(InvalidYes, {"position": None}, Play, small(), [], value, [])
            self.raised(InvalidYes, {"position": None}, Play, small(), [], [], value)
        for value in [*OTHERS, 1, (), ("l",), ["l", ()], ("l", [1]), ("l", (True,)), ("s", ()), ("w", ()), ("z", ())]:
            for position in (0, 2):
                wrong = [L1, L2][:position] + [value, 1]
                self.raised(InvalidYes, {"position": position}, Play, small(), ["s"], wrong, [])
                self.raised(InvalidYes, {"position": position}, Play, small(), ["s"], [L1, L2], wrong)

    def test_tests_that_are_left_out(self):
        self.raised(InvalidYes, {"position": 0}, Play, small(), ["l", "s"], [L1], [L1])
        Play(small(), ["l", "s"], [L1], [])
        program = samples()["branch"]
        self.raised(InvalidYes, {"position": 0}, Play, program, closed_of(program, ["i"]), [], [("i", ())])

    def test_parameters_by_name(self):
        self.assertEqual(Play(program=small(), labels=[], whole_yes=[L1], cut_yes=[L1]), Play(small(), [], [L1], [L1]))


class NothingChanges(Case):
    def test_what_was_passed_and_what_is_told_can_be_changed(self):
        labels, whole_yes, cut_yes = ["s"], [L1], [L1, L2]
        play = Play(small(), labels, whole_yes, cut_yes)
        for value in (labels, whole_yes, cut_yes):
            value.clear()
        play.left_out.append("z")
        for told in (*play.yes_lists(), play.whole_shown(), play.cut_shown(), play.unlike()):
            told.append("z")
        self.assertEqual([play.left_out, play.yes_lists()], [["s"], ([L1], [L1, L2])])
        self.assertEqual([play.whole_shown(), play.cut_shown(), play.unlike()], [[("w", (), 1)], [("w", (), 1)], []])


if __name__ == "__main__":
    unittest.main()

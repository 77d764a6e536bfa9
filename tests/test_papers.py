"""Papers and plays against vows: which values are one, and how long a play is."""

import unittest

from cutshows import papers
from cutshows.cuts import all_closed, cut_program
from cutshows.errors import InvalidPlay, TwoWorlds
from cutshows.papers import is_against, is_paper, length_of
from cutshows.plays import Play
from cutshows.programs import Program
from cutshows.runs import Run
from cutshows.standings import VOWS, first_standing, is_standing, is_wrong, moves_from, through
from cutshows.tables import kept_vows, least_length, paper, table
from tests.common import OTHERS, Case, Maker, great, samples, small

L1, L2, L3 = ("l", (1,)), ("l", (2,)), ("l", (3,))
LOOP = ["l", "s"]


def reached_from(program, cut, standing):
    """The standings that are reached from this one, itself among them."""
    found = [standing]
    for before in found:
        found += [after for _, after in moves_from(program, cut, before) if after not in found]
    return found


class Interface(Case):
    def test_each_is_defined_in_its_file(self):
        self.defined(papers, {
            is_paper: "program labels vow value", is_against: "program labels vow value", length_of: "play vow",
        })

    def test_parameters_by_name(self):
        told = table(small(), LOOP)
        self.assertIs(is_paper(program=small(), labels=LOOP, vow="ends", value=told), True)
        self.assertIs(is_against(program=small(), labels=["w"], vow="shows", value=([], [])), True)
        self.assertEqual(length_of(play=Play(small(), ["w"], [], []), vow="shows"), 1)


class Papers(Case):
    def setUp(self):
        self.told = table(small(), LOOP)

    def judged(self, value, right=False, vow="shows", cut=("l", "s")):
        self.assertIs(is_paper(small(), cut, vow, value), right)

    def test_lists_and_tuples(self):
        for vow in ("shows", "ends"):
            self.judged(self.told, True, vow)
            self.judged(tuple(self.told), True, vow)
        self.judged(self.told, False, "no more")

    def test_any_sequence_and_twice(self):
        self.judged(self.told[::-1], True)
        self.judged(self.told[3:] + self.told[:3], True)
        self.judged(self.told + self.told, True)
        self.judged([self.told[0], *self.told], True)

    def test_a_standing_less(self):
        for position in range(len(self.told)):
            self.judged(self.told[:position] + self.told[position + 1:])
        self.judged([])
        self.judged(())
        self.judged(self.told[:1])

    def test_the_empty_list_for_other_programs(self):
        for program in samples().values():
            for vow in VOWS:
                self.assertIs(is_paper(program, [], vow, []), False)
                self.assertIs(is_paper(program, [], vow, table(program, [])), True)

    def test_standings_that_cannot_be_reached(self):
        # It is no standing of the table, but one, and so are those that follow it.
        other = (0, 3, (), (), (0, 0, 0, 0))
        self.assertNotIn(other, self.told)
        more = reached_from(small(), LOOP, other)
        self.judged(self.told + more, True)
        self.judged(more + self.told, True)
        for position, standing in enumerate(more):
            if standing not in self.told:
                # No move leads to the first one of them.
                self.judged(self.told + more[:position] + more[position + 1:], standing == other)
        # What follows this one is wrong.
        unlike = reached_from(small(), LOOP, (3, 3, (), (), (0, 1, 2, 3)))
        self.judged(self.told + unlike)
        self.judged(self.told + unlike, True, "ends")

    def test_the_whole_of_it_without_the_first_standing(self):
        first = first_standing(small(), LOOP)
        rest = [standing for standing in self.told if standing != first]
        self.judged(rest)
        self.judged(rest + [first], True)

    def test_elements_of_other_kinds(self):
        whole, cut, pointers, aims, classes = self.told[0]
        near = [
            list(self.told[0]), (False, cut, pointers, aims, classes), (whole, cut, [], aims, classes),
            (whole, cut, pointers, [], classes), (whole, cut, pointers, aims, list(classes)),
            (whole, cut, pointers, aims, (False, True, 0, 1)), (whole, cut, pointers, aims, classes[:3]),
            self.told[0][:4], self.told[0] + (0,), (whole, 5, pointers, aims, classes),
            (whole, 1, pointers, aims, classes), (whole, cut, (0,), aims, classes),
        ]
        for value in [*near, *OTHERS, 0, [], (), self.told, Play(small(), [], [], [])]:
            self.judged([value, *self.told[1:]])
            self.judged([value, *self.told])
            self.judged([*self.told, value])
            self.judged((*self.told, value))

    def test_values_of_all_kinds(self):
        for value in [*OTHERS, 0, "paper", small(), {standing: True for standing in self.told}, [[]], [()], ([],),
                      [self.told], (self.told,), {"paper": self.told}, Play(small(), [], [], [])]:
            self.judged(value)

    def test_of_another_cut_or_program(self):
        self.judged(table(small(), ["s"]))
        self.judged(table(small(), []))
        self.judged(self.told, False, "shows", ())
        self.judged(table(small(), []), True, "shows", ())
        self.assertIs(is_paper(samples()["twice"], [], "ends", self.told), False)

    def test_all_that_is_asked_of_a_paper(self):
        """Against a look at each clause, for papers with standings put in and taken out."""
        maker = Maker(31)
        right = wrong = 0
        for program in [*samples().values(), *maker.programs(25)]:
            for cut in [maker.cut(program) for _ in range(4)]:
                whole = table(program, cut)
                for _ in range(4):
                    told = [standing for standing in whole if maker.random.random() < 0.97]
                    other = maker.random.choice(whole)
                    told += reached_from(program, cut, (*other[:4], (0,) * len(other[4]))) if -1 not in other[4] else []
                    for vow in VOWS:
                        expected = self.look(program, cut, vow, told)
                        self.assertIs(is_paper(program, cut, vow, told), expected)
                        right, wrong = right + expected, wrong + (not expected)
        self.assertGreater(min(right, wrong), 100)

    def look(self, program, cut, vow, told):
        if first_standing(program, cut) not in told:
            return False
        for standing in told:
            self.assertTrue(is_standing(program, cut, standing))
            if is_wrong(program, cut, standing, vow):
                return False
            if any(after not in told for _, after in moves_from(program, cut, standing)):
                return False
        return True

    def test_tables_that_are_too_great_play_no_part(self):
        self.assertIs(is_paper(great(), ["f"], "shows", []), False)
        self.assertIs(is_paper(great(), ["f"], "shows", table(great(), ["e", "f"])), False)
        self.assertIs(is_against(great(), ["f"], "ends", ([], [])), False)


class Against(Case):
    def judged(self, value, right, vow="shows", cut=("s",)):
        self.assertIs(is_against(small(), cut, vow, value), right)

    def test_by_hand(self):
        for vow in VOWS:
            # Behind the first pass one side leaves the loop, and the other one could stay, whatever it does.
            self.judged(([L1], [L1, L2]), vow != "no more", vow)
            self.judged(([L1, L2], [L1]), vow == "no more", vow)
            self.judged(([L1], [L1]), False, vow)
            self.judged(([], []), False, vow)
        self.judged(([], []), True, "shows", ["w"])
        self.judged(([], []), False, "no more", ["w"])
        self.judged(([], []), False, "ends", ["w"])

    def test_could_stay_while_something_is_not_shown_yet(self):
        # The cut program shows b where the whole one can stay.
        self.judged(([], []), True, "no more", LOOP)
        self.judged(([L1, L2], []), True, "no more", LOOP)
        self.judged(([], []), False, "shows", LOOP)

    def test_lists_and_tuples(self):
        for value in (([L1], (L1, L2)), ((L1,), [L1, L2]), ((L1,), (L1, L2))):
            self.judged(value, True)
        for value in ([[L1], [L1, L2]], [(L1,), (L1, L2)]):
            self.judged(value, False)

    def test_elements_that_do_no_harm(self):
        self.judged(([L1, L1, L3], [L2, L1, ("l", ("c", 9)), ("l", ())]), True)

    def test_two_worlds(self):
        for value in (([L1], []), ([], [L1])):
            with self.assertRaises(TwoWorlds):
                Play(small(), ["s"], *value)
            self.judged(value, False)
            for vow in VOWS:
                self.judged(value, False, vow)

    def test_yes_lists_of_the_cut_program(self):
        # The loop is left out there, so that nothing can be said of it.
        self.judged(([L1], [L1]), False, "no more", LOOP)
        self.judged(([L1], []), True, "no more", LOOP)

    def test_how_many(self):
        self.judged((), False)
        self.judged(([L1],), False)
        self.judged(([L1], [L1, L2], []), False)
        self.judged(([L1], [L1, L2], [L1]), False)

    def test_wrong_elements(self):
        for value in [*OTHERS, 0, "l", [], (), ["l", (1,)], ("l",), ("l", 1), ("l", [1]), ("l", (0,)), ("l", (True,)),
                      ("l", (1,), 1), ("s", ()), ("w", ()), ("z", ()), ("a", ()), (b"l", (1,)), L1[::-1]]:
            for right in (([value], [L1, L2]), ([L1, value], [L1, L2]), ([L1], [value, L1, L2]), ([L1], [L1, L2, value]),
                          ((value, L1), (L1, L2))):
                self.judged(right, False)

    def test_values_of_all_kinds(self):
        for value in [*OTHERS, 0, "play", [], (), small(), Play(small(), ["s"], [L1], [L1, L2])]:
            self.judged(value, False)
            self.judged((value, [L1, L2]), False)
            self.judged(([L1, L2, L3], (value,)), False)

    def test_of_a_play_that_keeps_the_vow(self):
        self.judged(([L1], []), False, "shows", LOOP)
        self.judged(([L1], []), False, "ends", LOOP)
        twice = samples()["twice"]
        self.assertIs(is_against(twice, ["x"], "shows", ([], [])), False)
        self.assertIs(is_against(twice, ["x", "y"], "shows", ([], [])), True)

    def test_against_a_look_at_the_standings(self):
        maker = Maker(32)
        found = {True: 0, False: 0}
        for program in [*samples().values(), *maker.programs(40)]:
            for cut in [maker.cut(program) for _ in range(5)]:
                rest = cut_program(program, cut)
                whole = maker.yes(program)
                for other in ([told for told in whole if told[0] in rest.tests()], maker.yes(rest)):
                    for vow in VOWS:
                        right = self.look(program, cut, vow, whole, other)
                        self.assertIs(is_against(program, cut, vow, (whole, other)), right)
                        found[right] += 1
                        if vow in kept_vows(program, cut):
                            self.assertIs(right, False)
        self.assertGreater(min(found.values()), 100)

    def look(self, program, cut, vow, whole, other):
        try:
            standings = through(Play(program, cut, whole, other))
        except TwoWorlds:
            return False
        return any(is_wrong(program, cut, standing, vow) for standing in standings)


class Lengths(Case):
    def test_by_hand(self):
        played = Play(small(), ["s"], [L1], [L1, L2])
        self.assertEqual([length_of(played, vow) for vow in VOWS], [4, None, 4])
        self.assertEqual([length_of(Play(small(), ["s"], [L1, L2], [L1]), vow) for vow in VOWS], [None, 4, None])
        self.assertEqual([length_of(Play(small(), ["s"], [L1], [L1]), vow) for vow in VOWS], [None] * 3)
        shorter = Play(small(), ["w"], [], [])
        self.assertEqual([length_of(shorter, vow) for vow in VOWS], [1, None, None])
        longer = Play(small(), ["w"], [L1, L2], [L1, L2])
        self.assertEqual([length_of(longer, vow) for vow in VOWS], [7, None, None])

    def test_none_at_all(self):
        show = samples()["show"]
        self.assertEqual(length_of(Play(show, ["x"], [], []), "shows"), 0)
        self.assertEqual(length_of(Play(small(), LOOP, [], []), "no more"), 0)

    def test_never_less_than_the_least_one(self):
        maker = Maker(33)
        for program in [*samples().values(), *maker.programs(30)]:
            for cut in all_closed(program) if len(program) < 5 else [maker.cut(program)]:
                whole = maker.yes(program)
                rest = cut_program(program, cut).tests()
                try:
                    played = Play(program, cut, whole, [told for told in whole if told[0] in rest])
                except TwoWorlds:
                    continue
                for vow in VOWS:
                    length = length_of(played, vow)
                    if length is not None:
                        self.assertLessEqual(least_length(program, cut, vow), length)
                        self.assertTrue(is_wrong(program, cut, through(played)[length], vow))
                        self.assertFalse(any(is_wrong(program, cut, before, vow) for before in through(played)[:length]))

    def test_no_play(self):
        played = Play(small(), ["s"], [], [])
        for value in [*OTHERS, 0, [], (), small(), ([], []), played.yes_lists(), Play, Run(small())]:
            self.raised(InvalidPlay, {"value": value}, length_of, value, "ends")
            self.raised(InvalidPlay, {"value": value}, length_of, value, None)

    def test_no_vow(self):
        self.wrong_vows(lambda vow: length_of(Play(small(), ["s"], [], []), vow))


class Errors(Case):
    def test_in_the_sequence_of_the_parameters(self):
        for action in (is_paper, is_against):
            self.wrong_programs(lambda value: action(value, 1, 1, None))
            self.wrong_labels(lambda labels: action(small(), labels, None, None))
            for labels in (["s"], ["l"]):
                self.wrong_vows(lambda vow: action(small(), labels, vow, None))
            self.not_closed(lambda labels: action(small(), labels, "ends", None))
            self.not_closed(lambda labels: action(small(), labels, "ends", ([], [])))


class NothingChanges(Case):
    def test_what_was_passed(self):
        told = paper(small(), LOOP, "ends")
        before = list(told)
        is_paper(small(), LOOP, "ends", told)
        self.assertEqual(told, before)
        yes = ([L1], [L2, L1])
        is_against(small(), ["s"], "ends", yes)
        self.assertEqual(yes, ([L1], [L2, L1]))

    def test_a_program_without_rows(self):
        program = Program(["a"])
        self.assertIs(is_paper(program, [], "shows", [(0, 0, (), (), (-1, -1))]), True)
        self.assertIs(is_against(program, [], "shows", ([], [])), False)


if __name__ == "__main__":
    unittest.main()

"""Tables: all standings that are reached, which vows are kept, papers, and plays against vows."""

import itertools
import unittest
from unittest import mock

from cutshows import tables
from cutshows.cuts import all_closed, cut_program
from cutshows.errors import NotRight, TwoWorlds
from cutshows.papers import is_against, is_paper, length_of
from cutshows.plays import Play
from cutshows.programs import Program
from cutshows.standings import VOWS, first_standing, is_wrong, moves_from, through
from cutshows.tables import MOST_STANDINGS, is_right, kept_vows, least_length, paper, play_against, table
from tests.common import Case, Maker, great, greater, samples, small, wishes

GONE = (-1, -1, -1, -1)
L1, L2 = ("l", (1,)), ("l", (2,))


def layers(program, cut):
    """The standings that are reached, in lists by the least number of moves that lead there."""
    found = [[first_standing(program, cut)]]
    seen = set(found[0])
    while found[-1]:
        newest = {after for before in found[-1] for _, after in moves_from(program, cut, before)} - seen
        seen |= newest
        found.append(list(newest))
    return found[:-1]


def cuts_of_small_programs(seed, many, most=5):
    """Small programs with all their closed cuts."""
    made = [program for program in Maker(seed).programs(many) if len(program) <= most]
    for program in [*samples().values(), *made]:
        if len(program) <= 7:
            for cut in all_closed(program):
                yield program, cut


def kept(program, cut):
    """The vows for which no standing is wrong that is reached."""
    reached = sum(layers(program, cut), [])
    return tuple(vow for vow in VOWS if not any(is_wrong(program, cut, standing, vow) for standing in reached))


class Examples(Case):
    def test_word_for_word(self):
        self.word_for_word("""
            >>> from cutshows.programs import Program
            >>> small = Program(["a", "b"], [("loop", "l", ["a"], [("set", "s", "a", ["a"])]), ("show", "w", "b")])
            >>> from cutshows.tables import kept_vows, least_length
            >>> [kept_vows(small, ["s"]), kept_vows(small, ["l", "s"]), least_length(small, ["s"], "ends")]
            [(), ('shows', 'ends'), 4]
        """, 4, "Stage 6")


class Interface(Case):
    def test_each_is_defined_in_its_file(self):
        self.defined(tables, {
            table: "program labels", is_right: "program labels wish", kept_vows: "program labels",
            paper: "program labels vow", play_against: "program labels vow", least_length: "program labels vow",
        })

    def test_most_standings(self):
        self.assertEqual(MOST_STANDINGS, 5000)
        self.assertIs(MOST_STANDINGS.__class__, int)

    def test_parameters_by_name(self):
        self.assertEqual(table(program=small(), labels=("s",)), table(small(), ["s"]))
        self.assertIs(is_right(program=small(), labels=("s", "l"), wish=("shows",)), True)
        self.assertEqual(kept_vows(program=small(), labels=("s", "l")), ("shows", "ends"))
        self.assertEqual(paper(program=small(), labels=("s", "l"), vow="ends"), table(small(), ["l", "s"]))
        self.assertEqual(least_length(program=small(), labels=("s",), vow="ends"), 4)
        self.assertEqual(play_against(program=small(), labels=("s",), vow="ends").left_out, ["s"])


class Tables(Case):
    def test_by_hand(self):
        self.assertEqual(table(small(), []), [
            (0, 0, (), (), (0, 1, 0, 1)), (1, 1, (), (), (0, 1, 0, 1)), (2, 2, (), (), (0, 1, 0, 1)),
            (3, 3, (), (), (0, 1, 0, 1)), (4, 4, (), (), GONE),
        ])
        self.assertEqual(table(small(), ["l", "s"]), [
            (0, 3, (), (), (0, 1, 0, 1)), (0, 3, (), (), (0, 1, 2, 1)), (1, 3, (), (), (0, 1, 0, 1)),
            (1, 3, (), (), (0, 1, 2, 1)), (2, 3, (), (), (0, 1, 2, 1)), (3, 3, (), (), (0, 1, 0, 1)),
            (3, 3, (), (), (0, 1, 2, 1)), (4, 4, (), (), GONE),
        ])
        self.assertEqual(table(Program(["a"]), []), [(0, 0, (), (), (-1, -1))])
        self.assertEqual(table(Program(["a"], [("show", "x", "a")], pointers={"p": "a"}), ["x"]),
            [(0, 1, (0,), (0,), (-1, -1)), (1, 1, (0,), (0,), (-1, -1))])

    def test_against_a_direct_closing(self):
        many = 0
        for program, cut in cuts_of_small_programs(21, 90, 6):
            found = table(program, cut)
            self.assertIs(found.__class__, list)
            self.assertEqual(found, sorted(sum(layers(program, cut), [])))
            many += len(found)
        self.assertGreater(many, 4000)

    def test_each_standing_once(self):
        for program, cut in ((great(), ["e", "f"]), (samples()["twoloops"], ["s"]), (samples()["calls"], ["s", "t"])):
            found = table(program, cut)
            self.assertEqual(found, sorted(set(found)))

    def test_the_cut_in_any_sequence(self):
        for labels in itertools.permutations(["l", "s", "w"]):
            self.assertEqual(table(small(), labels), table(small(), list("lsw")))

    def test_what_is_told_can_be_changed(self):
        labels = ["s"]
        found = table(small(), labels)
        expected = list(found)
        found.clear()
        labels.append("w")
        self.assertEqual(table(small(), ["s"]), expected)
        told = paper(small(), ["l", "s"], "ends")
        told.clear()
        self.assertEqual(paper(small(), ["l", "s"], "ends"), table(small(), ["l", "s"]))


class Kept(Case):
    def test_by_hand(self):
        self.assertEqual(kept_vows(small(), []), VOWS)
        self.assertEqual(kept_vows(small(), ["l", "s"]), ("shows", "ends"))
        self.assertEqual(kept_vows(small(), ["s", "l", "w"]), ("no more", "ends"))
        self.assertEqual(kept_vows(small(), ["w"]), ("no more", "ends"))
        self.assertEqual(kept_vows(small(), ["s"]), ())
        twice = samples()["twice"]
        for cut, vows in (([], VOWS), (["x"], VOWS), (["y"], VOWS), (["x", "y"], ("ends",)),
                          (["x", "y", "z"], ("no more", "ends"))):
            self.assertEqual(kept_vows(twice, cut), vows)

    def test_each_vow_by_itself(self):
        self.assertIs(is_right(small(), ["l", "s"], ["no more"]), False)
        self.assertIs(is_right(small(), ["l", "s"], ["shows", "no more"]), False)
        self.assertIs(is_right(small(), ["l", "s"], ["ends", "shows"]), True)

    def test_what_the_standings_of_the_table_say(self):
        for program, cut in cuts_of_small_programs(22, 25, 4):
            vows = kept(program, cut)
            self.assertEqual(kept_vows(program, cut), vows)
            for wish in wishes():
                right = all(vow in vows for vow in wish)
                self.assertIs(is_right(program, cut, wish), right)
                self.assertIs(is_right(program, tuple(cut), tuple(wish)), right)

    def test_a_cut_that_could_stay_for_ever(self):
        # Whatever is shown is shown by both, but in some worlds one of them stays in its loop.
        program = Program(["a", "b"], [("loop", "l", ["a"], [("set", "s", "a", ["a"])]), ("set", "t", "b", [])])
        self.assertEqual(kept_vows(program, ["s"]), ("shows", "no more"))
        self.assertEqual(kept_vows(program, ["l", "s"]), VOWS)
        played = play_against(small(), ["s"], "shows")
        self.assertTrue(played.keeps("shows"))
        self.assertIs(is_against(small(), ["s"], "shows", played.yes_lists()), True)
        self.assertEqual(least_length(small(), ["s"], "no more"), 4)


class PapersAndPlays(Case):
    def test_just_one_of_both(self):
        papers = plays = 0
        for program, cut in cuts_of_small_programs(23, 60):
            for vow in VOWS:
                played = play_against(program, cut, vow)
                if vow in kept_vows(program, cut):
                    self.assertIsNone(played)
                    self.paper_is_one(program, cut, vow)
                    papers += 1
                else:
                    self.raised(NotRight, {"vow": vow}, paper, program, cut, vow)
                    self.play_is_one(program, cut, vow, played)
                    plays += 1
        self.assertGreater(min(papers, plays), 300)

    def paper_is_one(self, program, cut, vow):
        told = paper(program, cut, vow)
        self.assertIs(told.__class__, list)
        self.assertIs(is_paper(program, cut, vow, told), True)
        self.assertIn(first_standing(program, cut), told)
        for standing in told:
            self.assertIs(is_wrong(program, cut, standing, vow), False)
            for _, after in moves_from(program, cut, standing):
                self.assertIn(after, told)
        self.assertIsNone(least_length(program, cut, vow))

    def play_is_one(self, program, cut, vow, played):
        self.assertIs(played.__class__, Play)
        self.assertEqual((played.program, played.left_out), (program, cut))
        self.assertIs(is_against(program, cut, vow, played.yes_lists()), True)
        self.assertTrue(any(is_wrong(program, cut, standing, vow) for standing in through(played)))
        self.assertIs(is_paper(program, cut, vow, table(program, cut)), False)

    def test_plays_through_calls_and_loops(self):
        for name in ("jumps", "twoloops", "calls", "late", "pointed"):
            program = samples()[name]
            maker = Maker(name)
            for cut in [maker.cut(program) for _ in range(12)]:
                for vow in VOWS:
                    played = play_against(program, cut, vow)
                    self.assertIs(played is None, vow in kept_vows(program, cut))
                    if played is not None:
                        self.play_is_one(program, cut, vow, played)
                        self.assertEqual(length_of(played, vow), least_length(program, cut, vow))

    def test_a_call_that_is_repeated(self):
        for vow in VOWS:
            self.assertEqual(play_against(small(), ["s"], vow), play_against(small(), ["s"], vow))


class Lengths(Case):
    def test_by_hand(self):
        self.assertEqual([least_length(small(), ["s"], vow) for vow in VOWS], [4, 4, 4])
        self.assertEqual([least_length(small(), ["w"], vow) for vow in VOWS], [1, None, None])
        self.assertEqual([least_length(small(), ["l", "s"], vow) for vow in VOWS], [None, 0, None])
        self.assertEqual([least_length(samples()["twice"], ["x", "y"], vow) for vow in VOWS], [2, 2, None])
        show = samples()["show"]
        self.assertEqual([least_length(show, ["x"], vow) for vow in VOWS], [0, None, None])

    def test_against_a_search_move_by_move(self):
        for program, cut in cuts_of_small_programs(24, 30):
            found = layers(program, cut)
            for vow in VOWS:
                wrong = [any(is_wrong(program, cut, standing, vow) for standing in layer) for layer in found]
                self.assertEqual(least_length(program, cut, vow), wrong.index(True) if True in wrong else None)

    def test_no_play_is_shorter(self):
        for name, told in (("small", [L1, L2]), ("branch", [("i", ())]), ("hollow", [L1, ("i", ()), ("j", ())])):
            program = samples()[name]
            lists = [list(yes) for many in range(len(told) + 1) for yes in itertools.combinations(told, many)]
            for cut in all_closed(program):
                tests = cut_program(program, cut).tests()
                plays = []
                for whole, rest in itertools.product(lists, lists):
                    try:
                        plays.append(Play(program, cut, whole, [one for one in rest if one[0] in tests]))
                    except TwoWorlds:
                        pass
                for vow in VOWS:
                    lengths = [length_of(play, vow) for play in plays]
                    least = least_length(program, cut, vow)
                    self.assertEqual(least, min([length for length in lengths if length is not None], default=None))


class Limits(Case):
    def test_tables_that_are_too_great(self):
        for program, cut in ((great(), ["f"]), (greater(), ["f"]), (greater(), ("s",)), (greater(), ["x", "f"])):
            self.too_many("standings", 5000, table, program, cut)
            self.too_many("standings", 5000, kept_vows, program, cut)
            for vow in VOWS:
                self.too_many("standings", 5000, is_right, program, cut, [vow])
                for action in (paper, play_against, least_length):
                    self.too_many("standings", 5000, action, program, cut, vow)

    def test_an_early_standing_is_wrong(self):
        after = moves_from(greater(), ["f", "x"], first_standing(greater(), ["f", "x"]))[0][1]
        self.assertIs(is_wrong(greater(), ["f", "x"], after, "shows"), True)

    def test_great_tables(self):
        found = table(great(), ["f", "e"])
        self.assertEqual(len(found), 3686)
        self.assertEqual(kept_vows(great(), ["f", "e"]), ("shows", "no more"))
        self.assertEqual(least_length(great(), ["e", "f"], "ends"), 14)
        self.assertEqual(paper(great(), ["e", "f"], "shows"), found)
        self.assertIs(is_paper(great(), ["e", "f"], "shows", found), True)
        self.assertIs(is_paper(great(), ["e", "f"], "shows", found[:2000] + found[2001:]), False)
        self.assertEqual(length_of(play_against(great(), ["e", "f"], "ends"), "ends"), 14)

    def test_just_as_many_as_there_may_be(self):
        many = len(table(small(), ["s"]))
        with mock.patch.object(tables, "MOST_STANDINGS", many):
            self.assertEqual(len(table(small(), ["s"])), many)
        with mock.patch.object(tables, "MOST_STANDINGS", many - 1):
            self.too_many("standings", many - 1, table, small(), ["s"])


class Errors(Case):
    cuts = (table, kept_vows)
    vows = (paper, play_against, least_length)

    def test_program(self):
        for action in self.cuts:
            self.wrong_programs(lambda value: action(value, 1))
        for action in (*self.vows, is_right):
            self.wrong_programs(lambda value: action(value, 1, 1))

    def test_labels(self):
        for action in self.cuts:
            self.wrong_labels(lambda labels: action(small(), labels))
        for action in (*self.vows, is_right):
            self.wrong_labels(lambda labels: action(small(), labels, None))

    def test_vow_and_wish(self):
        for labels in (["s"], ["l"]):
            # That a cut is not closed comes behind them.
            for action in self.vows:
                self.wrong_vows(lambda vow: action(small(), labels, vow))
            self.wrong_wishes(lambda wish: is_right(small(), labels, wish))

    def test_not_closed(self):
        for action in self.cuts:
            self.not_closed(lambda labels: action(small(), labels))
        for action in self.vows:
            self.not_closed(lambda labels: action(small(), labels, "ends"))
        self.not_closed(lambda labels: is_right(small(), labels, ["ends"]))

    def test_too_many_comes_last(self):
        for action in (*self.vows, is_right):
            self.wrong_programs(lambda value: action(value, ["f"], "ends"))
        for action in self.vows:
            self.wrong_vows(lambda vow: action(great(), ["f"], vow))
        self.wrong_wishes(lambda wish: is_right(great(), ["f"], wish))

    def test_not_right_comes_behind_too_many(self):
        self.too_many("standings", 5000, paper, greater(), ["f", "x"], "shows")
        for cut, vow in ((["s"], "shows"), (("l", "s"), "no more"), (["w"], "shows"), (["s"], "ends")):
            self.raised(NotRight, {"vow": vow}, paper, small(), cut, vow)


if __name__ == "__main__":
    unittest.main()

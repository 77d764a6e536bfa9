"""All examples of the document, one behind the other, and what it guarantees of the whole program."""

import unittest

from cutshows.cuts import all_closed, cut_program
from cutshows.errors import NotRight, TwoWorlds
from cutshows.least import least_cuts, right_cuts
from cutshows.papers import is_against, is_paper, length_of
from cutshows.plain import plain_cut
from cutshows.plays import Play
from cutshows.programs import Program
from cutshows.runs import Run
from cutshows.standings import VOWS
from cutshows.tables import is_right, kept_vows, least_length, paper, play_against, table
from tests.common import Case, Maker, samples, wishes

PLAIN = ["ends", "shows"]


def small_programs():
    """Small programs which together have rows of each word, parts and pointers."""
    found = [samples()[name] for name in ("empty", "show", "small", "twice", "branch", "hollow", "pointed", "late")]
    found.append(Program(["a", "b"], [("point", "m", "p", "b"), ("call", "c", "q"), ("show", "w", "p")],
                         pointers={"p": "a"}, parts={"q": [("if", "i", ["p"], [("back", "e")], [("set", "s", "p", [])])]}))
    found.append(Program(["a", "b"], [("loop", "l", ["a"], [("if", "i", ["b"], [("leave", "v")], [("next", "n")])]),
                                      ("stop", "h"), ("show", "w", "a")]))
    found.append(Program(["a"], [("call", "c", "q"), ("call", "d", "q"), ("show", "w", "a")],
                         parts={"q": [("loop", "l", ["a"], [("set", "s", "a", ["a"])])]}))
    return found + [program for program in Maker(101).programs(80) if 3 <= len(program) <= 5]


class Examples(Case):
    def test_all_of_them(self):
        self.word_for_word("""
            >>> from cutshows.partitions import Partition
            >>> both = Partition([0, 1, 0, 1])
            >>> [both.fresh(0), both.copied(1, 0), both & Partition([0, 0, 0, 1]), both.groups()]
            [Partition((0, 1, 2, 1)), Partition((0, 0, 0, 1)), Partition((0, 1, 0, 2)), [[0, 2], [1, 3]]]
            >>> from cutshows.programs import Program
            >>> from cutshows.points import points, ways
            >>> small = Program(["a", "b"], [("loop", "l", ["a"], [("set", "s", "a", ["a"])]), ("show", "w", "b")])
            >>> points(small)
            [('row', 'l', ()), ('row', 's', ()), ('pass', 'l', ()), ('row', 'w', ()), ('end', '', ())]
            >>> [ways(small, 0), ways(small, 2), ways(small, 4)]
            [{False: 3, True: 1}, {None: 0}, {}]
            >>> from cutshows.runs import Run, shown_by
            >>> [shown_by(small, []), Run(small, [("l", (1,))]).go()]
            [[('w', (), 1)], 5]
            >>> from cutshows.cuts import closed_of
            >>> from cutshows.plays import Play
            >>> played = Play(small, ["s"], [("l", (1,))], [("l", (1,)), ("l", (2,))])
            >>> [closed_of(small, ["l"]), played.unlike(), played.yes_lists()]
            [['l', 's'], [], ([('l', (1,))], [('l', (1,)), ('l', (2,))])]
            >>> from cutshows.standings import first_standing, moves_from
            >>> first_standing(small, ["s"])
            (0, 0, (), (), (0, 1, 0, 1))
            >>> moves_from(small, ["s"], (1, 2, (), (), (0, 1, 0, 1)))
            [((None, None), (2, 2, (), (), (0, 1, 2, 1)))]
            >>> from cutshows.tables import kept_vows, least_length
            >>> [kept_vows(small, ["s"]), kept_vows(small, ["l", "s"]), least_length(small, ["s"], "ends")]
            [(), ('shows', 'ends'), 4]
            >>> from cutshows.least import bars, least_cuts
            >>> twice = Program(["a", "b"], [("copy", "x", "a", "b"), ("copy", "y", "a", "b"), ("show", "z", "a")])
            >>> [least_cuts(twice, ["shows"]), bars(twice, ["shows"])]
            [[['x'], ['y']], [('x', 'y')]]
            >>> from cutshows.plain import needs, plain_cut
            >>> [needs(twice), plain_cut(small)]
            [['x', 'y', 'z'], ['l', 's']]
            >>> from cutshows.desk import Desk
            >>> Desk({"one": small}).do_all("leave l", "cut", "vows")
            ['done', 'l s', 'shows, ends']
        """, 26, "DOC.md")


class Guarantees(Case):
    def test_each_word_is_there(self):
        words = {program[label][0] for program in small_programs() for label in program.labels()}
        self.assertEqual(len(words), 11)

    def test_both_ways(self):
        for program in small_programs():
            for cut in all_closed(program):
                for vow in VOWS:
                    against = play_against(program, cut, vow)
                    if against is None:
                        self.assertIs(is_paper(program, cut, vow, paper(program, cut, vow)), True)
                        self.assertIsNone(least_length(program, cut, vow))
                    else:
                        self.raised(NotRight, {"vow": vow}, paper, program, cut, vow)
                        self.assertIs(is_paper(program, cut, vow, table(program, cut)), False)
                        self.assertIs(is_against(program, cut, vow, against.yes_lists()), True)
                        self.assertEqual(length_of(against, vow), least_length(program, cut, vow))
                    self.assertIs(vow in kept_vows(program, cut), against is None)

    def test_least(self):
        for program in small_programs():
            for wish in wishes()[:6] + [list(VOWS)]:
                least = least_cuts(program, wish)
                for cut in right_cuts(program, wish):
                    self.assertTrue(any(set(cut) <= set(other) for other in least))
            least = least_cuts(program, PLAIN)
            for fine in (False, True):
                self.assertTrue(any(set(plain_cut(program, fine=fine)) <= set(other) for other in least))

    def test_plain_ways(self):
        for program in small_programs():
            for fine in (False, True):
                self.assertIs(is_right(program, plain_cut(program, fine=fine), PLAIN), True)

    def test_all_worlds(self):
        """In no play is a vow broken that the cut is told to keep; each play is of many worlds."""
        broken = 0
        for program in [*small_programs(), *samples().values()]:
            maker = Maker(len(program))
            for cut in all_closed(program) if len(program) < 6 else [maker.cut(program)]:
                kept = kept_vows(program, cut)
                for played in self.plays(maker, program, cut):
                    for vow in VOWS:
                        if vow in kept:
                            self.assertIs(played.keeps(vow), True)
                            self.assertIsNone(length_of(played, vow))
                        broken += not played.keeps(vow)
        self.assertGreater(broken, 100)

    def plays(self, maker, program, cut):
        """Plays of the cut in which the cut program answers as the whole one does, as long as it can."""
        rest = cut_program(program, cut)
        for _ in range(3):
            whole = maker.yes(program)
            for other in ([told for told in whole if told[0] in rest.tests()], maker.yes(rest)):
                try:
                    yield Play(program, cut, whole, other)
                except TwoWorlds:
                    pass

    def test_what_both_show_is_in_one_sequence(self):
        for program in samples().values():
            maker = Maker(7)
            for cut in [maker.cut(program) for _ in range(8)]:
                for played in self.plays(maker, program, cut):
                    both = [told for told in played.whole_shown() if told in played.cut_shown()]
                    self.assertEqual(both, [told for told in played.cut_shown() if told in both])

    def test_loops_without_end(self):
        # A run in which the vow is broken need not be one of a play that ends: the whole program may stay in its loop.
        program = Program(["a"], [("loop", "l", [], []), ("show", "w", "a")])
        self.assertEqual(kept_vows(program, ["l"]), ("shows", "ends"))
        self.assertTrue(play_against(program, ["l"], "no more").keeps("no more"))
        self.assertEqual(Run(program, [("l", (1,))]).go(), 4)


if __name__ == "__main__":
    unittest.main()

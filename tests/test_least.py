"""All closed cuts: the right ones, the least ones, needed rows, and pairs of labels."""

import itertools
import unittest

from cutshows import least
from cutshows.cuts import all_closed, closed_of, cut_program
from cutshows.least import bars, fewest_kept, helps, least_cuts, needed, right_cuts
from cutshows.programs import Program
from cutshows.standings import VOWS
from cutshows.tables import is_right
from tests.common import Case, Maker, great, greater, samples, small, wishes

ACTIONS = (right_cuts, least_cuts, fewest_kept, needed, bars, helps)


def rows(many):
    return [("show", label, "a") for label in "abcdefghi"[:many]]


def few_rows(seed, many):
    """Programs of none to eight rows."""
    found = [program for program in samples().values() if len(program) <= 8]
    return found + [program for program in Maker(seed).programs(many) if len(program) <= 6]


class Look:
    """What the document says of all closed cuts, straight from them."""

    def __init__(self, program, wish):
        self.program, self.wish = program, wish
        self.closed = list(all_closed(program))
        self.right = [cut for cut in self.closed if is_right(program, cut, wish)]

    def least(self):
        return [cut for cut in self.right if not any(set(cut) < set(other) for other in self.right)]

    def fewest(self):
        return min(len(cut_program(self.program, cut)) for cut in self.right)

    def needed(self):
        return [label for label in self.program.labels() if all(label not in cut for cut in self.right)]

    def pairs(self, apart, together):
        """The pairs of labels whose cuts are right or not, and the one of both is or not."""
        found = []
        for one, other in itertools.combinations(sorted(self.program.labels()), 2):
            told = [closed_of(self.program, labels) in self.right for labels in ([one], [other], [one, other])]
            if told == [apart, apart, together]:
                found.append((one, other))
        return found


class Examples(Case):
    def test_word_for_word(self):
        self.word_for_word("""
            >>> from cutshows.programs import Program
            >>> from cutshows.least import bars, least_cuts
            >>> twice = Program(["a", "b"], [("copy", "x", "a", "b"), ("copy", "y", "a", "b"), ("show", "z", "a")])
            >>> [least_cuts(twice, ["shows"]), bars(twice, ["shows"])]
            [[['x'], ['y']], [('x', 'y')]]
        """, 4, "Stage 7")


class Interface(Case):
    def test_each_is_defined_in_its_file(self):
        self.defined(least, {action: "program wish" for action in ACTIONS})

    def test_parameters_by_name(self):
        self.assertEqual(least_cuts(program=small(), wish=("shows",)), [["l", "s"]])
        self.assertEqual(right_cuts(wish=["shows"], program=small()), [[], ["l", "s"]])
        self.assertEqual(fewest_kept(program=small(), wish=["shows"]), 1)
        self.assertEqual(needed(program=small(), wish=["shows"]), ["w"])
        self.assertEqual(bars(program=small(), wish=["shows"]), [])
        self.assertEqual(helps(program=small(), wish=["shows"]), [])


class ByHand(Case):
    def test_two_copies(self):
        twice = samples()["twice"]
        self.assertEqual(right_cuts(twice, ["shows"]), [[], ["x"], ["y"]])
        self.assertEqual(least_cuts(twice, ["shows"]), [["x"], ["y"]])
        self.assertEqual(fewest_kept(twice, ["shows"]), 2)
        self.assertEqual(needed(twice, ["shows"]), ["z"])
        self.assertEqual(bars(twice, ["shows"]), [("x", "y")])
        self.assertEqual(helps(twice, ["shows"]), [])
        self.assertEqual(least_cuts(twice, ["ends"]), [["x", "y", "z"]])
        self.assertEqual(fewest_kept(twice, ["ends"]), 0)

    def test_two_copies_in_other_boxes(self):
        # copy a b; copy a b; show a
        program = Program(["a", "b"], [("copy", "c", "a", "b"), ("copy", "d", "a", "b"), ("show", "e", "a")])
        self.assertEqual([least_cuts(program, ["shows"]), bars(program, VOWS)], [[["c"], ["d"]], [("c", "d")]])

    def test_pairs_whose_labels_do_not_ascend_in_the_text(self):
        rows = [("copy", label, "a", "b") for label in "zxy"]
        program = Program(["a", "b"], [*rows, ("show", "w", "a")])
        self.assertEqual(least_cuts(program, ["shows"]), [["x", "y"], ["x", "z"], ["y", "z"]])
        self.assertEqual(bars(program, ["shows"]), [])
        self.assertEqual(bars(Program(["a", "b"], [*rows[:2], ("show", "w", "a")]), ["shows"]), [("x", "z")])
        program = Program(["a", "b"], [
            ("copy", "z", "a", "b"), ("copy", "x", "a", "b"), ("show", "w", "a"), ("set", "s", "b", []),
            ("copy", "u", "a", "b"), ("copy", "t", "a", "b"), ("show", "v", "a"),
        ])
        self.assertEqual(bars(program, ["shows"]), [("t", "u"), ("x", "z")])

    def test_the_loop(self):
        self.assertEqual(right_cuts(small(), ["shows", "ends"]), [[], ["l", "s"]])
        self.assertEqual(least_cuts(small(), ["shows", "ends"]), [["l", "s"]])
        self.assertEqual(needed(small(), ["shows"]), ["w"])
        self.assertEqual(needed(small(), ["no more"]), [])
        self.assertEqual(right_cuts(small(), ["no more"]), [[], ["l", "s", "w"], ["s", "w"], ["w"]])
        self.assertEqual(least_cuts(small(), ["no more"]), [["l", "s", "w"]])
        self.assertEqual([bars(small(), ["no more"]), helps(small(), ["no more"])], [[], []])

    def test_help_each_other(self):
        # The part exchanges a and b, so that calling it twice, and no call at all, leave them as they were.
        program = Program(["a", "b", "c"], [("call", "d", "q"), ("call", "e", "q"), ("show", "w", "a")], parts={
            "q": [("copy", "x", "c", "a"), ("copy", "y", "a", "b"), ("copy", "z", "b", "c")],
        })
        for wish in (["shows"], ["ends", "no more"], VOWS):
            self.assertIn(("d", "e"), helps(program, wish))
        rows = [("call", "e", "q"), ("call", "d", "q"), ("show", "w", "a")]
        self.assertIn(("d", "e"), helps(Program(["a", "b", "c"], rows, parts=program.parts()), ["shows"]))
        self.assertIn(["d", "e", "x", "y", "z"], least_cuts(program, ["shows"]))
        self.assertEqual(helps(program, ["ends"]), [])

    def test_needed_in_text_order(self):
        program = Program(["a", "b"], [("set", "z", "a", []), ("show", "y", "a"), ("show", "x", "b")])
        self.assertEqual(needed(program, ["shows"]), ["z", "y", "x"])
        self.assertEqual(needed(program, ["ends"]), [])

    def test_no_rows(self):
        program = Program(["a"], pointers={"p": "a"})
        for wish in wishes():
            self.assertEqual(right_cuts(program, wish), [[]])
            self.assertEqual(least_cuts(program, wish), [[]])
            self.assertEqual(fewest_kept(program, wish), 0)
            self.assertEqual([needed(program, wish), bars(program, wish), helps(program, wish)], [[], [], []])

    def test_greater_cuts_need_not_be_right_and_lesser_ones_neither(self):
        twice = samples()["twice"]
        self.assertIn(["x"], right_cuts(twice, ["shows"]))
        self.assertNotIn(["x", "y"], right_cuts(twice, ["shows"]))
        self.assertNotIn(["s"], right_cuts(small(), ["shows"]))
        self.assertIn(["l", "s"], right_cuts(small(), ["shows"]))


class AllCuts(Case):
    def test_against_a_direct_look(self):
        found = 0
        for program in few_rows(41, 30):
            for wish in [["shows"], ["ends", "no more"]]:
                look = Look(program, wish)
                self.assertEqual(right_cuts(program, wish), look.right)
                self.assertEqual(least_cuts(program, wish), look.least())
                self.assertEqual(fewest_kept(program, wish), look.fewest())
                self.assertEqual(needed(program, wish), look.needed())
                self.assertEqual(bars(program, wish), look.pairs(True, False))
                self.assertEqual(helps(program, wish), look.pairs(False, True))
                found += len(bars(program, wish))
        self.assertGreater(found, 1)

    def test_each_wish(self):
        for program in (small(), samples()["twice"], samples()["branch"], samples()["pointed"]):
            for wish in wishes():
                self.assertEqual(right_cuts(program, wish), Look(program, wish).right)
                for action in ACTIONS:
                    self.assertEqual(action(program, tuple(wish)), action(program, sorted(wish)))

    def test_eight_rows(self):
        program = Program(["a"], rows(8))
        self.assertEqual(len(right_cuts(program, ["no more"])), 256)
        self.assertEqual(least_cuts(program, ["no more"]), [list("abcdefgh")])
        self.assertEqual(right_cuts(program, ["shows"]), [[]])
        self.assertEqual(needed(program, ["shows"]), list("abcdefgh"))
        self.assertEqual(fewest_kept(program, ["shows"]), 8)

    def test_parts_and_pointers(self):
        program = Program(["a", "b"], [("point", "m", "p", "b"), ("call", "c", "q"), ("show", "w", "b")],
                          pointers={"p": "a"}, parts={"q": [("set", "s", "p", []), ("back", "e"), ("stop", "h")]})
        for wish in wishes():
            look = Look(program, wish)
            self.assertEqual([right_cuts(program, wish), least_cuts(program, wish)], [look.right, look.least()])
        # The stop is never reached, but it would be without the row ahead of it.
        self.assertEqual(right_cuts(program, ["shows"]), [[], ["e", "h"], ["h"]])
        self.assertEqual(needed(program, ["shows"]), ["m", "c", "w", "s"])
        self.assertEqual(helps(program, ["shows"]), [])


class Limits(Case):
    def test_nine_rows(self):
        for action in ACTIONS:
            for program in (Program(["a"], rows(9)), greater(), samples()["calls"], samples()["jumps"]):
                self.assertGreater(len(program), 8)
                # Also where a table would be too great.
                self.too_many("rows", 8, action, program, ["ends"])

    def test_tables_that_are_too_great(self):
        for action in ACTIONS:
            self.too_many("standings", 5000, action, great(), ["shows"])
        for vow in VOWS:
            self.too_many("standings", 5000, right_cuts, great(), (vow,))


class Errors(Case):
    def test_in_the_sequence_of_the_parameters(self):
        for action in ACTIONS:
            self.wrong_programs(lambda value: action(value, None))
            for program in (small(), great(), greater()):
                self.wrong_wishes(lambda wish: action(program, wish))


class NothingChanges(Case):
    def test_what_is_told_can_be_changed(self):
        wish = ["shows", "ends"]
        for action in (right_cuts, least_cuts):
            told = action(small(), wish)
            expected = [list(cut) for cut in told]
            told[-1].append("z")
            told.append(["z"])
            self.assertEqual(action(small(), wish), expected)
        for action in (needed, bars, helps):
            expected = list(action(samples()["twice"], wish))
            action(samples()["twice"], wish).append("z")
            self.assertEqual(action(samples()["twice"], wish), expected)
        self.assertEqual(wish, ["shows", "ends"])


if __name__ == "__main__":
    unittest.main()

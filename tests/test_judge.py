"""Claims: their forms, whether they are true, and papers for them."""

import itertools
import unittest
from unittest import mock

from cutshows import judge, tables
from cutshows.cuts import all_closed, closed_of
from cutshows.errors import InvalidClaim, Untrue
from cutshows.judge import is_claim, is_judged, is_true, paper_for
from cutshows.least import bars, least_cuts, needed
from cutshows.papers import is_against, is_paper
from cutshows.plays import Play
from cutshows.programs import Program
from cutshows.standings import VOWS
from cutshows.tables import kept_vows, table
from tests.common import OTHERS, Case, Maker, great, greater, samples, small, wishes

L1, L2 = ("l", (1,)), ("l", (2,))
NINE = Program(["a"], [("show", label, "a") for label in "abcdefghi"])


def twice():
    return samples()["twice"]


def right_claims():
    """True claims of each form, by their words."""
    return {
        "right": ("right", small(), ["l", "s"], "shows"),
        "wrong": ("wrong", small(), ["s"], "ends"),
        "needed": ("needed", twice(), "z", ["shows"]),
        "least": ("least", twice(), ["x"], ["shows", "ends"]),
        "bar": ("bar", twice(), "x", "y", ["no more", "shows"]),
    }


def others(claim):
    """Values near a claim that are none, each with another value at one position."""
    for place in range(len(claim)):
        for value in [*OTHERS, 0, "word", "z", [], (), ["z", "z"], [0], claim, NINE.rows()]:
            if place > 0 and value.__class__ is str and value in claim[1]:
                continue
            # The empty cut is closed.
            if place == 2 and claim[0] in ("right", "wrong", "least") and value.__class__ in (list, tuple) and not value:
                continue
            yield claim[:place] + (value,) + claim[place + 1:]


class Interface(Case):
    def test_each_is_defined_in_its_file(self):
        self.defined(judge, {is_claim: "value", is_true: "claim", paper_for: "claim", is_judged: "claim value"})

    def test_parameters_by_name(self):
        claim = right_claims()["wrong"]
        self.assertIs(is_claim(value=claim), True)
        self.assertIs(is_true(claim=claim), True)
        self.assertIs(is_judged(claim=claim, value=paper_for(claim=claim)), True)


class Forms(Case):
    def no_claim(self, value):
        self.assertIs(is_claim(value), False)
        self.raised(InvalidClaim, {"value": value}, is_true, value)
        self.raised(InvalidClaim, {"value": value}, paper_for, value)
        self.raised(InvalidClaim, {"value": value}, is_judged, value, None)

    def test_right_ones(self):
        for claim in right_claims().values():
            self.assertIs(is_claim(claim), True)
            self.assertIs(is_true(claim), True)

    def test_lists_and_tuples(self):
        for claim in right_claims().values():
            self.assertIs(is_claim(tuple(tuple(part) if part.__class__ is list else part for part in claim)), True)
            self.no_claim(list(claim))
            self.no_claim([claim])
            self.no_claim((claim,))

    def test_each_part_wrong(self):
        for claim in right_claims().values():
            for value in others(claim):
                self.no_claim(value)

    def test_another_length_and_word(self):
        for word, claim in right_claims().items():
            for other in [*claim, 0, None, ["shows"]]:
                self.no_claim(claim + (other,))
            for many in range(len(claim)):
                self.no_claim(claim[:many])
            for other in ("Right", "right ", "", "need", "bars", "helps", "most"):
                self.no_claim((other, *claim[1:]))
        claims = right_claims()
        self.no_claim(("right", *claims["least"][1:]))
        self.no_claim(("least", *claims["right"][1:]))
        self.no_claim(("needed", *claims["least"][1:]))
        self.no_claim(("bar", *claims["needed"][1:]))

    def test_values_of_all_kinds(self):
        for value in [*OTHERS, 0, "right", [], (), small(), {"right": small()}, (("right",),), ("right",)]:
            self.no_claim(value)

    def test_cuts_that_are_not_closed(self):
        for word in ("right", "wrong"):
            for labels in (["l"], ("l", "w"), ["w", "w"], ["z"], "s", None, ["s", 0], [["s"]], {"s": 1}):
                self.no_claim((word, small(), labels, "ends"))
                self.no_claim(("least", small(), labels, ["ends"]))
            for labels in (["s", "l"], [], (), ["w", "s"]):
                self.assertIs(is_claim((word, small(), labels, "ends")), True)

    def test_labels(self):
        for label in ("a", "b", "q", "", None, ["x"], ("x",), 0, True):
            self.no_claim(("needed", twice(), label, ["shows"]))
            self.no_claim(("bar", twice(), "x", label, ["shows"]))
            self.no_claim(("bar", twice(), label, "x", ["shows"]))
        for label in "xyz":
            self.no_claim(("bar", twice(), label, label, ["shows"]))
            self.assertIs(is_claim(("needed", twice(), label, ["shows"])), True)

    def test_vows_and_wishes(self):
        for vow in ("show", ["shows"], ("shows",), None, 0):
            self.no_claim(("right", small(), [], vow))
            self.no_claim(("wrong", small(), [], vow))
        for wish in ([], (), ["shows", "shows"], ["show"], "shows", None, [["shows"]], {"shows": 1}):
            self.no_claim(("needed", twice(), "x", wish))
            self.no_claim(("least", twice(), ["x"], wish))
            self.no_claim(("bar", twice(), "x", "y", wish))
        for wish in wishes():
            self.assertIs(is_claim(("least", twice(), ["x"], wish)), True)

    def test_claims_that_are_not_true_or_too_great(self):
        self.assertIs(is_claim(("needed", NINE, "a", ["shows"])), True)
        self.assertIs(is_claim(("right", great(), ["f"], "ends")), True)
        self.assertIs(is_claim(("least", greater(), ["f"], VOWS)), True)
        self.assertIs(is_claim(("wrong", small(), [], "ends")), True)


class TrueOnes(Case):
    def test_right_and_wrong(self):
        for program in [*samples().values(), *Maker(81).programs(20)]:
            for cut in all_closed(program) if len(program) <= 5 else [[]]:
                for vow in VOWS:
                    right = vow in kept_vows(program, cut)
                    self.judge(("right", program, cut, vow), right)
                    self.judge(("wrong", program, tuple(cut[::-1]), vow), not right)

    def test_needed_least_and_bar(self):
        for program in self.few():
            closed = list(all_closed(program))
            for wish in (["shows"], ["no more", "ends"], list(VOWS)):
                found = [needed(program, wish), least_cuts(program, wish), bars(program, wish)]
                for label in program.labels():
                    self.judge(("needed", program, label, wish), label in found[0])
                for cut in closed:
                    self.judge(("least", program, cut[::-1], tuple(wish)), cut in found[1])
                for one, other in itertools.permutations(program.labels(), 2):
                    self.judge(("bar", program, one, other, wish), tuple(sorted([one, other])) in found[2])

    def few(self):
        found = [samples()[name] for name in ("empty", "show", "small", "twice", "branch", "hollow")]
        return found + [program for program in Maker(82).programs(40) if 2 <= len(program) <= 4]

    def judge(self, claim, right):
        self.assertIs(is_true(claim), right)
        if right:
            told = paper_for(claim)
            self.assertIs(is_judged(claim, told), True)
            self.form(claim, told)
        else:
            self.raised(Untrue, {"claim": claim}, paper_for, claim)
            for value in ([], (), ([], []), ([], [], [])):
                self.assertIs(is_judged(claim, value), False)

    def form(self, claim, told):
        """The paper has just the form of the document."""
        word, program, *parts = claim
        if word == "right":
            self.paper(program, parts[0], parts[1], told)
        elif word == "wrong":
            self.against(program, parts[0], [parts[1]], (parts[1], *told))
            self.assertEqual([told.__class__, len(told)], [tuple, 2])
        elif word == "needed":
            self.all_against(program, parts[:1], parts[1], told, [])
        elif word == "least":
            self.assertEqual([told.__class__, len(told)], [tuple, 2])
            self.papers(program, parts[0], parts[1], told[0])
            self.all_against(program, parts[0], parts[1], told[1], [sorted(parts[0])])
        else:
            self.assertEqual([told.__class__, len(told)], [tuple, 3])
            self.papers(program, closed_of(program, parts[:1]), parts[2], told[0])
            self.papers(program, closed_of(program, parts[1:2]), parts[2], told[1])
            self.against(program, closed_of(program, parts[:2]), parts[2], told[2])

    def paper(self, program, cut, vow, told):
        self.assertIs(told.__class__, list)
        self.assertIs(is_paper(program, cut, vow, told), True)

    def papers(self, program, cut, wish, told):
        self.assertEqual([told.__class__, len(told)], [list, len(wish)])
        for vow, one in zip(wish, told):
            self.paper(program, cut, vow, one)

    def against(self, program, cut, wish, told):
        self.assertEqual([part.__class__ for part in told], [str, list, list])
        self.assertIs(told.__class__, tuple)
        self.assertIn(told[0], wish)
        self.assertIs(is_against(program, cut, told[0], told[1:]), True)

    def all_against(self, program, labels, wish, told, but):
        cuts = [cut for cut in all_closed(program) if set(labels) <= set(cut) and cut not in but]
        self.assertIs(told.__class__, list)
        self.assertEqual([one[0] for one in told], cuts)
        for cut, one in zip(cuts, told):
            self.assertIs(one.__class__, tuple)
            self.assertIs(one[0].__class__, list)
            self.against(program, cut, wish, one[1:])

    def test_by_hand(self):
        self.assertEqual(paper_for(("right", small(), ["s", "l"], "ends")), table(small(), ["l", "s"]))
        self.assertEqual(paper_for(("wrong", small(), ["s"], "ends")), ([L1], [L1, L2]))
        told = paper_for(("needed", Program(["a"], [("show", "x", "a")]), "x", ["shows"]))
        self.assertEqual(told, [(["x"], "shows", [], [])])
        told = paper_for(("bar", twice(), "y", "x", ["ends", "shows"]))
        self.assertEqual(told[2], ("shows", [], []))
        told = paper_for(("least", twice(), ["y"], ["shows"]))
        self.assertEqual([one[0] for one in told[1]], [["x", "y"], ["x", "y", "z"], ["y", "z"]])
        told = paper_for(("least", twice(), ["x", "z", "y"], ["ends"]))
        self.assertEqual(told, ([table(twice(), list("xyz"))], []))

    def test_a_program_without_rows(self):
        claim = ("least", Program(["a"]), [], ["shows"])
        self.assertEqual(paper_for(claim), ([[(0, 0, (), (), (-1, -1))]], []))


class Judged(Case):
    def judged(self, claim, value, right=False):
        self.assertIs(is_judged(claim, value), right)

    def test_right(self):
        claim = right_claims()["right"]
        told = paper_for(claim)
        self.judged(claim, told, True)
        self.judged(claim, tuple(told[::-1]), True)
        self.judged(claim, told + told[:2], True)
        for position in range(len(told)):
            self.judged(claim, told[:position] + told[position + 1:])
            self.judged(claim, told[:position] + [list(told[position])] + told[position + 1:])
        self.judged(("right", small(), ["s"], "shows"), table(small(), ["s"]))

    def test_wrong(self):
        claim = right_claims()["wrong"]
        self.judged(claim, ([L1], [L1, L2]), True)
        self.judged(claim, ((L1,), (L2, L1)), True)
        for value in ([[L1], [L1, L2]], ([L1], [L1]), ([L1],), ([L1], [L1, L2], []), ([], [L1]), ([L1], [list(L1), L2]),
                      Play(small(), ["s"], [L1], [L1, L2]), ("ends", [L1], [L1, L2])):
            self.judged(claim, value)
        self.judged(("wrong", small(), ["l", "s"], "ends"), ([], []))

    def test_needed(self):
        claim = right_claims()["needed"]
        told = paper_for(claim)
        self.assertEqual(len(told), 4)
        self.judged(claim, told, True)
        self.judged(claim, tuple(told), True)
        self.judged(claim, [(tuple(cut), vow, tuple(whole), tuple(rest)) for cut, vow, whole, rest in told], True)
        self.lists(claim, told, lambda value: value)

    def lists(self, claim, told, around):
        """Spoils the list of what is told against each cut, with what is around it."""
        for position, one in enumerate(told):
            rest = told[:position] + told[position + 1:]
            self.judged(claim, around(rest))
            self.judged(claim, around(told[:position] + [one, *told[position:]]))
            for value in [*OTHERS, 0, [], (), list(one), one[:3], one + ([],), one[1:], (one,)]:
                self.judged(claim, around(told[:position] + [value] + told[position + 1:]))
            cut, vow, whole, cut_yes = one
            near = [
                (cut[::-1] + ["q"], vow, whole, cut_yes), (cut[:-1], vow, whole, cut_yes), (cut + cut, vow, whole, cut_yes),
                ("".join(cut), vow, whole, cut_yes), ([*cut[:-1], 0], vow, whole, cut_yes),
                ([*cut[:-1], OTHERS[-1]], vow, whole, cut_yes), (cut, "no  more", whole, cut_yes),
                (cut, [vow], whole, cut_yes), (cut, OTHERS[-1], whole, cut_yes), (cut, None, whole, cut_yes),
                (cut, vow, None, cut_yes), (cut, vow, whole, None), (cut, vow, [("x", ())], cut_yes),
                (cut, vow, whole, [("x", ())]), (cut, vow, (whole, cut_yes)), (vow, cut, whole, cut_yes),
            ]
            near += [(cut[::-1], vow, whole, cut_yes)] if len(cut) > 1 else []
            for value in near:
                self.judged(claim, around(told[:position] + [value] + told[position + 1:]))
        for position in range(len(told) - 1):
            exchanged = told[:position] + [told[position + 1], told[position]] + told[position + 2:]
            self.judged(claim, around(exchanged))
        for value in [*OTHERS, 0, "paper", [], {"paper": told}, [told], (told, told)]:
            self.judged(claim, around(value))

    def test_a_vow_that_is_not_wished(self):
        # The play is against "no more" as well, but that is not of the wish.
        claim = ("needed", twice(), "z", ["shows"])
        other = ("needed", twice(), "z", ["ends", "shows"])
        told = paper_for(claim)
        self.judged(other, told, True)
        self.assertIs(is_against(twice(), ["x", "y"], "no more", ([], [])), True)
        bar = ("bar", twice(), "x", "y", ["shows"])
        papers = [table(twice(), ["x"])], [table(twice(), ["y"])]
        self.judged(bar, (*papers, ("shows", [], [])), True)
        self.judged(bar, (*papers, ("no more", [], [])))
        self.judged(("bar", twice(), "x", "y", ["no more"]), (*papers, ("no more", [], [])), True)

    def test_least(self):
        claim = right_claims()["least"]
        papers, plays = paper_for(claim)
        self.judged(claim, (papers, plays), True)
        self.judged(claim, (tuple(papers), tuple(plays)), True)
        self.judged(claim, (tuple(tuple(one) for one in papers), plays), True)
        self.lists(claim, plays, lambda value: (papers, value))
        self.papers(claim, papers, lambda value: (value, plays))
        for value in ([papers, plays], (plays, papers), (papers,), (papers, plays, plays), papers, plays, (), []):
            self.judged(claim, value)

    def papers(self, claim, papers, around):
        """Spoils a list of papers, with what is around it."""
        for value in [*OTHERS, 0, [], papers[:-1], papers + papers[:1], [papers], papers[0], {0: papers}]:
            self.judged(claim, around(value))
        for position, told in enumerate(papers):
            for value in [*OTHERS, 0, [], told[1:], told[:-1], [told], table(small(), [])]:
                self.judged(claim, around(papers[:position] + [value] + papers[position + 1:]))
            self.judged(claim, around(papers[:position] + [told[::-1]] + papers[position + 1:]), True)

    def test_papers_in_the_sequence_of_the_vows(self):
        # A loop with a show behind it: one more standing may stand in a paper for one vow only.
        claim = ("least", small(), ["l", "s"], ["shows", "ends"])
        papers, plays = paper_for(claim)
        unlike = [(3, 3, (), (), (0, 1, 2, 3))]
        self.judged(claim, ([papers[0], papers[1] + unlike], plays), True)
        self.judged(claim, ([papers[0] + unlike, papers[1]], plays))
        self.judged(("least", small(), ["l", "s"], ["ends", "shows"]), ([papers[0] + unlike, papers[1]], plays), True)

    def test_bar(self):
        claim = right_claims()["bar"]
        one, other, against = paper_for(claim)
        self.judged(claim, (one, other, against), True)
        self.judged(claim, (tuple(one), tuple(other), (against[0], tuple(against[1]), tuple(against[2]))), True)
        self.papers(claim, one, lambda value: (value, other, against))
        self.papers(claim, other, lambda value: (one, value, against))
        for value in [*OTHERS, 0, [], (), list(against), against[1:], (["x", "y"], *against), against + ([],),
                      ("ends", *against[1:]), (against[0], against[1]), (against[0], None, []), ([], [], against[0]),
                      (OTHERS[-1], [], [])]:
            self.judged(claim, (one, other, value))
        for value in ([one, other, against], (other, one, against), (one, other), (one, other, against, against), one,
                      (one, against), ()):
            self.judged(claim, value)

    def test_values_of_all_kinds(self):
        for claim in right_claims().values():
            for value in [*OTHERS, 0, "paper", [], (), small(), [()], ([],), claim]:
                self.judged(claim, value)

    def test_claims_that_are_not_true(self):
        for claim, value in (
            (("needed", twice(), "x", ["shows"]), [(["x"], "shows", [], [])]),
            (("least", twice(), [], ["shows"]), ([table(twice(), [])], [])),
            (("least", twice(), ["x", "y"], ["shows"]), ([table(twice(), ["x", "y"])], [(list("xyz"), "shows", [], [])])),
            (("bar", twice(), "x", "z", ["shows"]), ([table(twice(), ["x"])], [table(twice(), ["z"])], ("shows", [], []))),
            (("bar", small(), "l", "s", ["shows"]), ([table(small(), ["l", "s"])], [table(small(), ["s"])],
                                                     ("shows", [], []))),
        ):
            self.assertIs(is_true(claim), False)
            self.judged(claim, value)


class Limits(Case):
    def test_nine_rows(self):
        for claim in (("needed", NINE, "a", ["shows"]), ("least", NINE, ["a"], ["ends"]),
                      ("bar", NINE, "a", "b", ["shows"]), ("least", greater(), ["f"], ["shows"])):
            for action in (is_true, paper_for):
                self.too_many("rows", 8, action, claim)
            for value in [None, [], ([], []), ([], [], [])]:
                self.too_many("rows", 8, is_judged, claim, value)
        self.assertIs(is_true(("right", NINE, ["a"], "no more")), True)
        self.assertIs(is_true(("wrong", NINE, ["a"], "shows")), True)
        self.assertIs(is_judged(("wrong", NINE, ["a"], "shows"), ([], [])), True)

    def test_tables_that_are_too_great(self):
        for claim in (("right", great(), ["f"], "ends"), ("wrong", greater(), ("x", "f"), "shows"),
                      ("needed", great(), "f", ["ends"]), ("least", great(), ["f"], ["shows"]),
                      ("bar", great(), "f", "c", ["shows"])):
            for action in (is_true, paper_for):
                self.too_many("standings", 5000, action, claim)

    def test_they_play_no_part_for_papers(self):
        for claim in (("right", great(), ["f"], "shows"), ("wrong", great(), ["f"], "ends"),
                      ("needed", great(), "f", ["ends"]), ("least", great(), ["f"], ["shows"]),
                      ("bar", great(), "f", "c", ["shows"])):
            for value in (None, [], ([], []), ([], [], ())):
                self.assertIs(is_judged(claim, value), False)
        claim = ("wrong", greater(), ["f", "x"], "shows")
        self.assertIs(is_judged(claim, ([], [])), True)

    def test_papers_of_great_tables(self):
        claim = ("right", great(), ["e", "f"], "shows")
        told = paper_for(claim)
        self.assertEqual(len(told), 3686)
        self.assertIs(is_judged(claim, told), True)
        self.assertIs(is_judged(claim, told[1:]), False)

    def test_untrue_comes_last(self):
        with mock.patch.object(tables, "MOST_STANDINGS", 12):
            for word in ("right", "wrong"):
                self.too_many("standings", 12, paper_for, (word, small(), ["s"], "shows"))
        self.raised(Untrue, {"claim": ("right", small(), ["s"], "ends")}, paper_for, ("right", small(), ["s"], "ends"))


class NothingChanges(Case):
    def test_what_was_passed_and_is_told(self):
        labels, wish = ["y"], ["shows"]
        claim = ("least", twice(), labels, wish)
        told = paper_for(claim)
        expected = repr(told)
        told[0][0].clear()
        told[1].clear()
        self.assertEqual(repr(paper_for(claim)), expected)
        self.assertEqual([labels, wish], [["y"], ["shows"]])
        told = paper_for(claim)
        is_judged(claim, told)
        self.assertEqual(repr(told), expected)


if __name__ == "__main__":
    unittest.main()

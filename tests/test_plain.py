"""Plain ways: what pointers can reach, needs and plain cuts; and cuts that are pared."""

import itertools
import unittest
from unittest import mock

from cutshows import plain, tables
from cutshows.cuts import all_closed, closed_of, is_closed
from cutshows.least import least_cuts
from cutshows.plain import can_reach, is_pared, needs, pared, plain_cut
from cutshows.programs import Program
from cutshows.standings import VOWS
from cutshows.tables import is_right, table
from tests.common import Case, Maker, great, greater, samples, small, wishes

PLAIN = ["shows", "ends"]
SHOW = ("show", "w", "a")


def look_reach(program):
    """What pointers can reach, by putting in boxes as long as something changes."""
    found = {name: {box} for name, box in program.pointers().items()}
    while True:
        before = sum(map(len, found.values()))
        for label in program.labels():
            row = program[label]
            if row[0] == "point":
                found[row[2]] |= found.get(row[3], {row[3]})
        if sum(map(len, found.values())) == before:
            return {name: sorted(boxes) for name, boxes in found.items()}


def look_needs(program, fine):
    """The needs, by putting in labels as long as something changes."""
    rows = {label: program[label] for label in program.labels()}
    pointers = program.pointers()
    reach = look_reach(program) if fine else {name: program.boxes() for name in pointers}

    def boxes(operands):
        return {box for operand in operands for box in reach.get(operand, [operand])}

    def reads(row):
        if row[0] in ("if", "loop"):
            return row[2]
        return {"set": row[-1:][0], "copy": row[3:], "show": row[2:]}.get(row[0], ())

    def operands(row):
        return [*reads(row), *{"set": row[2:3], "copy": row[2:3], "point": row[3:]}.get(row[0], ())]

    def innermost(label):
        return [outer for outer in program.around(label) if rows[outer][0] == "loop"][-1]

    def needed_by(label):
        row = rows[label]
        part = program.part_of(label)
        for other, told in rows.items():
            if told[0] in ("set", "copy") and boxes([told[2]]) & boxes(reads(row)):
                yield other
            if other in program.around(label):
                yield other
            if part and (told[0] == "call" and told[2] == part or told[0] == "back" and program.part_of(other) == part):
                yield other
            if row[0] == "loop" and told[0] in ("leave", "next") and innermost(other) == label:
                yield other
            if told[0] == "point" and set(operands(row)) & ({told[2]} if fine else set(pointers)):
                yield other

    found = {label for label in rows if rows[label][0] in ("show", "stop")}
    while True:
        more = {other for label in found for other in needed_by(label)} - found
        if not more:
            return [label for label in program.labels() if label in found]
        found |= more


class Examples(Case):
    def test_word_for_word(self):
        self.word_for_word("""
            >>> from cutshows.programs import Program
            >>> small = Program(["a", "b"], [("loop", "l", ["a"], [("set", "s", "a", ["a"])]), ("show", "w", "b")])
            >>> twice = Program(["a", "b"], [("copy", "x", "a", "b"), ("copy", "y", "a", "b"), ("show", "z", "a")])
            >>> from cutshows.plain import needs, plain_cut
            >>> [needs(twice), plain_cut(small)]
            [['x', 'y', 'z'], ['l', 's']]
        """, 5, "Stage 8, plain ways")


class Interface(Case):
    def test_each_is_defined_in_its_file(self):
        self.defined(plain, {
            can_reach: "program", needs: "program *fine", plain_cut: "program *fine",
            pared: "program wish labels", is_pared: "program labels wish",
        })
        for action in (needs, plain_cut):
            self.assertEqual(action.__kwdefaults__, {"fine": False})
            self.assertRaises(TypeError, action, small(), True)

    def test_parameters_by_name(self):
        self.assertEqual(can_reach(program=small()), {})
        self.assertEqual(needs(program=small(), fine=True), ["w"])
        self.assertEqual(plain_cut(fine=False, program=small()), ["l", "s"])
        self.assertEqual(pared(program=small(), wish=["ends"], labels=("l",)), ["l", "s"])
        self.assertIs(is_pared(program=small(), labels=["l", "s"], wish=("shows",)), True)


class Reach(Case):
    def reach(self, rows, expected, pointers=(("p", "a"), ("q", "b"))):
        found = can_reach(Program(["c", "a", "b"], rows, pointers=dict(pointers)))
        self.assertEqual(found, expected)
        self.assertEqual(list(found), sorted(found))

    def test_the_beginning(self):
        self.reach([], {"p": ["a"], "q": ["b"]})
        self.reach([SHOW], {"p": ["c"], "q": ["c"]}, [("q", "c"), ("p", "c")])
        self.reach([], {}, [])

    def test_boxes(self):
        self.reach([("point", "m", "p", "c")], {"p": ["a", "c"], "q": ["b"]})
        self.reach([("point", "m", "p", "c"), ("point", "n", "p", "b")], {"p": ["a", "b", "c"], "q": ["b"]})
        self.reach([("point", "m", "p", "a")], {"p": ["a"], "q": ["b"]})

    def test_pointers(self):
        self.reach([("point", "m", "p", "q")], {"p": ["a", "b"], "q": ["b"]})
        # Which row stands ahead of the other one makes no difference.
        for rows in itertools.permutations([("point", "m", "p", "q"), ("point", "n", "q", "c")]):
            self.reach(list(rows), {"p": ["a", "b", "c"], "q": ["b", "c"]})
        for rows in itertools.permutations([("point", "m", "p", "q"), ("point", "n", "q", "p"), ("point", "o", "q", "c")]):
            self.reach(list(rows), {"p": ["a", "b", "c"], "q": ["a", "b", "c"]})
        self.reach([("point", "m", "p", "p")], {"p": ["a"], "q": ["b"]})

    def test_rows_that_are_never_reached_and_rows_within(self):
        self.reach([("stop", "h"), ("loop", "l", [], [("if", "i", [], [], [("point", "m", "p", "c")])])],
                   {"p": ["a", "c"], "q": ["b"]})

    def test_other_rows_that_write_pointers(self):
        self.reach([("set", "s", "p", ["c"]), ("copy", "t", "q", "c")], {"p": ["a"], "q": ["b"]})

    def test_what_is_told_can_be_changed(self):
        program = samples()["pointed"]
        found = can_reach(program)
        self.assertEqual(found, {"p": ["a", "b"], "q": ["a", "b", "c"]})
        found["p"].append("z")
        found.clear()
        self.assertEqual(can_reach(program), {"p": ["a", "b"], "q": ["a", "b", "c"]})


class Needs(Case):
    def needs(self, rows, coarse, fine=None, parts=None, **pointers):
        program = Program(["a", "b", "c"], rows, pointers=pointers, parts=parts)
        self.assertEqual("".join(needs(program)), coarse)
        self.assertEqual("".join(needs(program, fine=True)), coarse if fine is None else fine)
        for told in (False, True):
            rest = [label for label in program.labels() if label not in needs(program, fine=told)]
            self.assertEqual(plain_cut(program, fine=told), sorted(rest))

    def test_shows_and_stops(self):
        self.needs([], "")
        self.needs([("show", "x", "a"), ("set", "s", "b", []), ("stop", "h"), ("show", "w", "c")], "xhw")
        self.needs([("set", "s", "a", []), ("loop", "l", ["a"], []), ("if", "i", [], [], [])], "")
        self.needs([("call", "c", "q")], "", parts={"q": [("back", "e")]})

    def test_writers_of_what_is_read(self):
        self.needs([("set", "s", "a", []), ("set", "t", "b", []), SHOW], "sw")
        self.needs([("set", "s", "a", ["b"]), ("set", "t", "b", []), ("set", "u", "c", []), SHOW], "stw")
        self.needs([("copy", "s", "a", "b"), ("copy", "t", "b", "c"), ("copy", "u", "c", "c"), SHOW], "stuw")
        # A copy reads its source, not its target; a writer behind the show is needed too, and one that reads itself.
        self.needs([("copy", "s", "b", "a"), SHOW, ("copy", "t", "a", "a")], "wt")
        self.needs([("set", "s", "b", ["a"]), ("set", "t", "c", ["b"]), SHOW], "w")

    def test_each_read(self):
        self.needs([("set", "s", "b", []), ("set", "t", "c", []), ("set", "u", "a", ["a", "c", "b"]), SHOW], "stuw")
        self.needs([("set", "s", "b", []), ("if", "i", ["a", "b"], [SHOW], [])], "siw")
        self.needs([("set", "s", "b", []), ("loop", "l", ["b", "b"], [SHOW])], "slw")
        self.needs([("set", "s", "b", []), ("if", "i", ["b"], [("stop", "h")], [])], "sih")

    def test_ifs_and_loops_around(self):
        inner = [("if", "i", [], [("set", "s", "b", [])], [("loop", "k", ["c"], [SHOW])])]
        self.needs([("loop", "l", ["b"], inner), ("loop", "m", ["a"], [])], "liskw")
        self.needs([("if", "j", [], inner, []), ("set", "t", "b", [])], "jikw")

    def test_leaves_and_nexts_of_a_loop(self):
        self.needs([("loop", "l", [], [SHOW, ("leave", "v"), ("next", "n")])], "lwvn")
        # Those of another loop within are not needed; an if around one is.
        self.needs([("loop", "l", [], [SHOW, ("loop", "k", [], [("leave", "v")]), ("if", "i", ["b"], [("next", "n")], []),
                    ("set", "s", "b", []), ("if", "j", ["c"], [], [])])], "lwins")
        self.needs([("loop", "l", [], [("leave", "v"), ("loop", "k", [], [SHOW, ("if", "i", [], [], [("next", "n")])])])],
                   "lvkwin")
        self.needs([("loop", "l", [], [("leave", "v")]), SHOW], "w")

    def test_parts(self):
        call, other = ("call", "c", "q"), ("call", "d", "q")
        self.needs([call, SHOW, other], "cwds", parts={"q": [("set", "s", "a", []), ("set", "t", "b", [])]})
        self.needs([call, SHOW], "w", parts={"q": [("set", "s", "b", []), ("back", "e")]})
        self.needs([call, other], "cdwe", parts={"q": [SHOW, ("set", "s", "b", []), ("back", "e")]})
        # The rows around calls and backs.
        self.needs([("if", "i", ["b"], [call], []), ("loop", "l", [], [("set", "s", "c", [])])], "icwje",
                   parts={"q": [SHOW, ("if", "j", ["b"], [("back", "e")], [("set", "t", "c", [])])]})
        # A call of another part is not needed by itself; the calls that lead to a part are.
        self.needs([call, ("call", "d", "r")], "cew", parts={
            "q": [("call", "e", "s")], "r": [("back", "f")], "s": [SHOW],
        })

    def test_pointers_in_reads(self):
        rows = [("set", "s", "a", []), ("set", "t", "b", []), ("set", "u", "c", []), ("show", "w", "p")]
        self.needs(rows, "stuw", "sw", p="a")
        self.needs(rows + [("point", "m", "p", "c")], "stuwm", "suwm", p="a")
        self.needs(rows + [("point", "m", "q", "c")], "stuwm", "sw", p="a", q="b")
        self.needs([*rows[:3], ("if", "i", ["b", "p"], [("stop", "h")], [])], "stuih", "stih", p="a")

    def test_pointers_as_sources(self):
        rows = [("set", "s", "a", []), ("set", "t", "c", []), ("copy", "u", "b", "p"), ("show", "w", "b")]
        self.needs(rows, "stuw", "suw", p="a")
        self.needs([("point", "m", "p", "c"), *rows], "mstuw", p="a")

    def test_pointers_as_targets(self):
        self.needs([("set", "s", "p", ["b"]), ("set", "t", "b", []), SHOW], "stw", p="a")
        self.needs([("set", "s", "p", ["c"]), ("set", "t", "c", []), SHOW], "stw", "w", p="b")
        self.needs([("copy", "s", "p", "c"), ("point", "m", "p", "a"), SHOW], "smw", p="b")
        self.needs([("copy", "s", "p", "c"), ("point", "m", "p", "c"), SHOW], "smw", "w", p="b")
        self.needs([("point", "n", "q", "c"), ("set", "s", "p", []), ("point", "m", "p", "b"), SHOW], "nsmw", "smw",
                   p="a", q="b")

    def test_point_rows_that_read_pointers(self):
        rows = [("point", "m", "q", "c"), ("point", "n", "p", "q"), ("set", "s", "c", []), ("show", "w", "p")]
        self.needs(rows, "mnsw", p="a", q="b")
        # Only the other pointer is read.
        self.needs([*rows[:3], ("show", "w", "q")], "mnsw", "msw", p="a", q="b")
        self.needs([("if", "i", ["b"], [("point", "m", "q", "c")], []), ("set", "t", "b", []), *rows[1:]], "imtnsw",
                   p="a", q="b")
        self.needs([("point", "m", "q", "p"), ("point", "n", "p", "q"), ("show", "w", "p")], "mnw", p="a", q="b")

    def test_point_rows_alone(self):
        self.needs([("point", "m", "p", "q"), ("point", "n", "q", "c"), SHOW], "w", p="a", q="b")

    def test_in_text_order(self):
        program = Program(["a"], [("show", "z", "a"), ("call", "c", "u"), ("call", "b", "t")], parts={
            "u": [("set", "x", "a", [])], "t": [("if", "y", [], [("show", "m", "a")], [("show", "k", "a")])],
        })
        self.assertEqual(needs(program), ["z", "c", "b", "y", "m", "k", "x"])
        self.assertEqual(plain_cut(program), [])

    def test_against_a_second_look(self):
        lengths = set()
        for program in [*samples().values(), *Maker(51).programs(300)]:
            self.assertEqual(can_reach(program), look_reach(program))
            for fine in (False, True):
                found = needs(program, fine=fine)
                self.assertEqual(found, look_needs(program, fine), program)
                self.assertEqual(plain_cut(program, fine=fine), sorted(set(program.labels()) - set(found)))
                lengths.add((fine, len(found)))
            self.assertLessEqual(set(needs(program, fine=True)), set(needs(program)))
        self.assertGreater(len(lengths), 15)

    def test_the_others_can_be_left_out(self):
        for program in [*samples().values(), *Maker(52).programs(200)]:
            for fine in (False, True):
                cut = plain_cut(program, fine=fine)
                self.assertIs(is_closed(program, cut), True)
                self.assertIs(is_right(program, cut, PLAIN), True)

    def test_they_are_within_a_least_cut(self):
        for program in [*samples().values(), *Maker(53).programs(60)]:
            if len(program) <= 6:
                found = least_cuts(program, PLAIN)
                for fine in (False, True):
                    cut = plain_cut(program, fine=fine)
                    self.assertTrue(any(set(cut) <= set(other) for other in found))


class Pared(Case):
    def test_one_label_behind_the_other(self):
        twice = samples()["twice"]
        self.assertEqual(pared(twice, ["shows"], []), [])
        self.assertEqual(pared(twice, ["shows"], ["x"]), ["x"])
        self.assertEqual(pared(twice, ["shows"], ["x", "y", "z"]), ["x"])
        self.assertEqual(pared(twice, ["shows"], ("y", "x", "z")), ["y"])
        self.assertEqual(pared(twice, ["ends"], ("z", "y")), ["y", "z"])
        self.assertEqual(pared(twice, ["shows"], ["z"]), [])

    def test_what_must_go_with_a_label(self):
        self.assertEqual(pared(small(), PLAIN, ["l"]), ["l", "s"])
        self.assertEqual(pared(small(), PLAIN, ["s"]), [])
        self.assertEqual(pared(small(), PLAIN, ["w", "s", "l"]), ["l", "s"])
        self.assertEqual(pared(small(), ["no more", "ends"], ["w", "l", "s"]), ["l", "s", "w"])

    def test_labels_that_are_left_out_already(self):
        self.assertEqual(pared(small(), PLAIN, ["l", "s"]), ["l", "s"])
        with mock.patch.object(plain, "is_right", side_effect=is_right) as asked:
            self.assertEqual(pared(small(), PLAIN, ["l", "s"]), ["l", "s"])
            self.assertEqual(asked.call_count, 1)

    def test_a_label_whose_cut_is_right_only_later(self):
        # Without the loop nothing is in doubt any more: the set of what it reads can go behind it, not ahead of it.
        program = Program(["a", "b"], [("set", "s", "a", ["b"]), ("loop", "l", ["a"], []), ("show", "w", "b")])
        self.assertIs(is_right(program, ["s"], PLAIN), False)
        self.assertEqual(pared(program, PLAIN, ["s", "l"]), ["l"])
        self.assertEqual(pared(program, PLAIN, ["l", "s"]), ["l", "s"])
        self.assertIs(is_pared(program, ["l"], PLAIN), False)
        self.assertIs(is_pared(program, ["l", "s"], PLAIN), True)

    def test_pared_need_not_be_least(self):
        # The part exchanges a and b: both calls can be left out together, and nothing by itself.
        rows = [("call", "d", "q"), ("call", "e", "q"), ("show", "v", "a"), ("show", "w", "b")]
        program = Program(["a", "b", "c"], rows, parts={
            "q": [("copy", "x", "c", "a"), ("copy", "y", "a", "b"), ("copy", "z", "b", "c")],
        })
        self.assertIs(is_pared(program, [], ["shows"]), True)
        self.assertEqual(pared(program, ["shows"], program.labels()), [])
        self.assertNotIn([], least_cuts(program, ["shows"]))

    def test_each_sequence_against_a_second_look(self):
        for name in ("small", "twice", "branch", "hollow"):
            program = samples()[name]
            for wish in wishes()[:9]:
                for labels in itertools.permutations(program.labels()):
                    cut = []
                    for label in labels:
                        greater_cut = closed_of(program, cut + [label] if label not in cut else cut)
                        if is_right(program, greater_cut, wish):
                            cut = greater_cut
                    self.assertEqual(pared(program, wish, labels), cut)

    def test_is_pared_against_a_look_at_each_other_label(self):
        found = set()
        for program in [*samples().values(), *Maker(54).programs(40)]:
            for cut in all_closed(program) if len(program) <= 5 else [Maker(len(program)).cut(program)]:
                for wish in (["shows"], ["ends", "no more"], VOWS):
                    expected = is_right(program, cut, wish) and not any(
                        is_right(program, closed_of(program, cut + [label]), wish)
                        for label in program.labels() if label not in cut
                    )
                    self.assertIs(is_pared(program, cut, wish), expected)
                    self.assertIs(is_pared(program, tuple(cut[::-1]), tuple(wish)), expected)
                    found.add(expected)
        self.assertEqual(found, {True, False})

    def test_least_cuts_are_pared(self):
        for program in (small(), samples()["twice"], samples()["branch"], samples()["pointed"]):
            for wish in wishes():
                for cut in least_cuts(program, wish):
                    self.assertIs(is_pared(program, cut, wish), True)

    def test_no_rows(self):
        self.assertEqual(pared(Program(["a"]), ["shows"], []), [])
        self.assertIs(is_pared(Program(["a"]), [], ["shows"]), True)
        self.assertEqual([needs(Program(["a"])), plain_cut(Program(["a"]), fine=True)], [[], []])

    def test_what_was_passed_and_is_told(self):
        labels, wish = ["l", "w"], ["shows"]
        found = pared(small(), wish, labels)
        found.append("z")
        self.assertEqual([pared(small(), wish, labels), labels, wish], [["l", "s"], ["l", "w"], ["shows"]])
        needs(small()).clear()
        plain_cut(small()).clear()
        self.assertEqual([needs(small()), plain_cut(small())], [["w"], ["l", "s"]])


class Limits(Case):
    def test_a_cut_that_is_tried(self):
        self.too_many("standings", 5000, pared, great(), PLAIN, ["f"])
        self.too_many("standings", 5000, pared, greater(), ["shows"], ["x", "f"])
        self.too_many("standings", 5000, pared, greater(), ["no more"], ("s",))

    def test_what_is_left_out_ahead_of_it(self):
        # With e the table is not too great, so that the sequence of the labels decides.
        self.assertEqual(pared(great(), ["shows"], ["e", "f"]), ["e", "f"])
        self.too_many("standings", 5000, pared, great(), ["shows"], ["f", "e"])
        self.assertEqual(pared(great(), ["shows"], ["l", "f"]), sorted(great().labels()))

    def test_is_pared_looks_at_all(self):
        self.too_many("standings", 5000, is_pared, great(), [], ["shows"])
        self.too_many("standings", 5000, is_pared, great(), ["f"], ["shows"])
        # The cut itself is not right, and another one is too great.
        with mock.patch.object(tables, "MOST_STANDINGS", 8):
            self.assertEqual([len(table(small(), cut)) for cut in ([], ["w"], ["l", "s"])], [5, 5, 8])
            self.assertIs(is_pared(small(), ["l", "s"], ["shows"]), True)
            self.too_many("standings", 8, is_pared, small(), [], ["shows"])
            self.too_many("standings", 8, is_pared, small(), ["w"], ["shows"])
        self.assertIs(is_pared(small(), ["w"], ["shows"]), False)


class Errors(Case):
    def test_program(self):
        for action in (can_reach, needs, plain_cut):
            self.wrong_programs(action)
        self.wrong_programs(lambda value: needs(value, fine=True))
        self.wrong_programs(lambda value: plain_cut(value, fine=True))
        for action in (pared, is_pared):
            self.wrong_programs(lambda value: action(value, None, None))

    def test_pared(self):
        for labels in (["l", "s"], None, ["z"]):
            self.wrong_wishes(lambda wish: pared(small(), wish, labels))
        self.wrong_labels(lambda labels: pared(small(), ["shows"], labels))
        # It takes labels that are no closed cut.
        self.assertEqual(pared(small(), ["shows"], ["l"]), ["l", "s"])

    def test_is_pared(self):
        self.wrong_labels(lambda labels: is_pared(small(), labels, None))
        for labels in (["s"], ["l"]):
            self.wrong_wishes(lambda wish: is_pared(small(), labels, wish))
        self.not_closed(lambda labels: is_pared(small(), labels, ["shows"]))

    def test_too_many_comes_last(self):
        self.wrong_wishes(lambda wish: pared(great(), wish, ["f"]))
        self.wrong_wishes(lambda wish: is_pared(great(), ["f"], wish))


if __name__ == "__main__":
    unittest.main()

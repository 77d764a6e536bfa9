"""Changes: rows put first, behind another one, and replaced; cuts in another program; boxes that are always alike."""

import unittest
from unittest import mock

from cutshows import changes, tables
from cutshows.changes import always_alike, put_behind, put_first, replaced, still, still_right
from cutshows.cuts import all_closed, closed_of
from cutshows.errors import CallRing, InvalidPoint, InvalidProgram, InvalidRow, NotCalled
from cutshows.programs import Program
from cutshows.points import points
from cutshows.standings import VOWS
from cutshows.tables import is_right, table
from tests.common import OTHERS, Case, Maker, great, greater, samples, small, wishes

NEW = ("show", "new", "a")


def parted():
    """A program with loops, ifs, parts and pointers, all of whose blocks something can be put into."""
    return Program(["a", "b"], [
        ("loop", "l", ["a"], [
            ("set", "s", "a", ["a"]),
            ("if", "i", ["b"], [("show", "u", "a")], [("show", "v", "p")]),
        ]),
        ("call", "c", "q"),
    ], pointers={"p": "a"}, parts={"q": [("if", "k", [], [("back", "e")], []), ("set", "t", "p", ["a"])]})


def each_word():
    """A row of each word, which can stand in a loop of a part, with labels that others do not have."""
    return [
        ("set", "xa", "p", ["a", "b"]), ("copy", "xa", "a", "p"), ("point", "xa", "p", "b"), ("show", "xa", "p"),
        ("if", "xa", ["b"], [("stop", "xb")], [("loop", "xc", [], [("leave", "xd")])]),
        ("loop", "xa", [], [("if", "xb", [], [("next", "xc")], [])]),
        ("leave", "xa"), ("next", "xa"), ("back", "xa"), ("stop", "xa"), ("call", "xa", "r"),
    ]


class Examples(Case):
    def test_word_for_word(self):
        self.word_for_word("""
            >>> from cutshows.programs import Program
            >>> small = Program(["a", "b"], [("loop", "l", ["a"], [("set", "s", "a", ["a"])]), ("show", "w", "b")])
            >>> twice = Program(["a", "b"], [("copy", "x", "a", "b"), ("copy", "y", "a", "b"), ("show", "z", "a")])
            >>> from cutshows.plain import needs, plain_cut
            >>> [needs(twice), plain_cut(small)]
            [['x', 'y', 'z'], ['l', 's']]
        """, 5, "Stage 8")


class Interface(Case):
    def test_each_is_defined_in_its_file(self):
        self.defined(changes, {
            put_first: "program row", put_behind: "program label row", replaced: "program label row",
            still: "program labels other", still_right: "program other wish", always_alike: "program labels point",
        })

    def test_parameters_by_name(self):
        self.assertEqual(put_first(program=small(), row=NEW), put_first(small(), NEW))
        self.assertEqual(put_behind(program=small(), label="s", row=NEW).within("l"), ["s", "new"])
        self.assertEqual(replaced(program=small(), label="l", row=NEW).labels(), ["new", "w"])
        self.assertEqual(still(program=small(), labels=["s"], other=Program(["a"])), [])
        self.assertEqual(still_right(program=small(), other=small(), wish=["shows"]), [[], ["l", "s"]])
        self.assertEqual(always_alike(program=small(), labels=["s"], point=0), ["b"])


class Putting(Case):
    def test_first(self):
        program = put_first(small(), NEW)
        self.assertEqual(program, Program(["a", "b"], [NEW, *small().rows()]))
        self.assertIs(program.__class__, Program)
        self.assertEqual(put_first(Program(["a"]), NEW), Program(["a"], [NEW]))

    def test_behind_main_rows(self):
        rows = small().rows()
        self.assertEqual(put_behind(small(), "l", NEW), Program(["a", "b"], [rows[0], NEW, rows[1]]))
        self.assertEqual(put_behind(small(), "w", NEW), Program(["a", "b"], [*rows, NEW]))

    def test_behind_rows_within(self):
        self.assertEqual(put_behind(small(), "s", NEW), Program(["a", "b"], [
            ("loop", "l", ["a"], [("set", "s", "a", ["a"]), NEW]), ("show", "w", "b"),
        ]))

    def test_behind_rows_in_each_block(self):
        program = parted()
        loop, call = program.rows()
        first, inner = loop[3]
        part = program.parts()

        def expected(block, rows=part["q"]):
            made = [("loop", "l", ["a"], block), call]
            return Program(["a", "b"], made, pointers={"p": "a"}, parts={"q": rows})

        self.assertEqual(put_behind(program, "s", NEW), expected([first, NEW, inner]))
        self.assertEqual(put_behind(program, "i", NEW), expected([first, inner, NEW]))
        self.assertEqual(put_behind(program, "u", NEW), expected([first, (*inner[:3], [*inner[3], NEW], inner[4])]))
        self.assertEqual(put_behind(program, "v", NEW), expected([first, (*inner[:3], inner[3], [*inner[4], NEW])]))
        test, last = part["q"]
        self.assertEqual(put_behind(program, "k", NEW), expected(loop[3], [test, NEW, last]))
        self.assertEqual(put_behind(program, "t", NEW), expected(loop[3], [test, last, NEW]))
        self.assertEqual(put_behind(program, "e", NEW), expected(loop[3], [(*test[:3], [*test[3], NEW], []), last]))

    def test_rows_of_each_word(self):
        program = Program(["a", "b"], [("call", "c", "q")], pointers={"p": "a"},
                          parts={"q": [("call", "d", "r"), ("loop", "l", [], [("set", "s", "a", [])])], "r": []})
        for row in each_word():
            put = put_behind(program, "s", row)
            self.assertEqual(put, Program(["a", "b"], program.rows(), pointers={"p": "a"}, parts={
                "q": [("call", "d", "r"), ("loop", "l", [], [("set", "s", "a", []), row])], "r": [],
            }))
            self.assertEqual(put.within("l")[:2], ["s", "xa"])

    def test_what_was_passed_is_copied(self):
        block, reads = [("set", "x", "a", [])], ["a"]
        row = ("if", "new", reads, block, [])
        for put in (put_first(small(), row), put_behind(small(), "s", row), replaced(small(), "w", row)):
            expected = repr(put)
            block.append(NEW)
            reads.append("b")
            self.assertEqual(repr(put), expected)
            block.pop()
            reads.pop()

    def test_the_program_stays(self):
        program = parted()
        before = repr(program)
        put_first(program, NEW)
        put_behind(program, "u", NEW)
        replaced(program, "i", NEW)
        self.assertEqual(repr(program), before)

    def test_made_programs(self):
        for program in Maker(61).programs(60):
            if len(program) < 12:
                for label in program.labels():
                    put = put_behind(program, label, NEW)
                    self.assertEqual([put.around("new"), put.part_of("new")],
                                     [program.around(label), program.part_of(label)])
                    rest = put.labels()
                    # In text order it stands behind all that is within the other row, too, and what that calls is not.
                    before = [label, *program.within(label)][-1]
                    self.assertEqual(rest.index("new"), rest.index(before) + 1)
                    self.assertEqual([one for one in rest if one != "new"], program.labels())


class Replaced(Case):
    def test_main_rows_and_rows_within(self):
        loop, show = small().rows()
        self.assertEqual(replaced(small(), "w", NEW), Program(["a", "b"], [loop, NEW]))
        self.assertEqual(replaced(small(), "l", NEW), Program(["a", "b"], [NEW, show]))
        self.assertEqual(replaced(small(), "s", NEW), Program(["a", "b"], [("loop", "l", ["a"], [NEW]), show]))

    def test_the_same_labels(self):
        self.assertEqual(replaced(small(), "w", ("set", "w", "b", ["a"])).rows()[1], ("set", "w", "b", ("a",)))
        # Those of the row itself, and of all that was within it.
        row = ("if", "s", ["b"], [("stop", "l")], [])
        self.assertEqual(replaced(small(), "l", row), Program(["a", "b"], [row, ("show", "w", "b")]))
        self.assertEqual(replaced(small(), "l", ("show", "l", "a")).labels(), ["l", "w"])
        self.assertEqual(replaced(small(), "l", ("loop", "new", [], [("loop", "l", [], [("set", "s", "a", [])])])).labels(),
                         ["new", "l", "s", "w"])

    def test_rows_of_each_word(self):
        program = Program(["a", "b"], [("call", "c", "q")], pointers={"p": "a"},
                          parts={"q": [("call", "d", "r"), ("loop", "l", [], [("set", "s", "a", [])])], "r": []})
        for row in each_word():
            self.assertEqual(replaced(program, "s", row), Program(["a", "b"], program.rows(), pointers={"p": "a"}, parts={
                "q": [("call", "d", "r"), ("loop", "l", [], [row])], "r": [],
            }))

    def test_in_parts(self):
        put = replaced(parted(), "e", ("show", "e", "b"))
        self.assertEqual(put.parts()["q"][0], ("if", "k", (), [("show", "e", "b")], []))
        put = replaced(parted(), "c", ("call", "new", "q"))
        self.assertEqual(put.calls_of("q"), ["new"])

    def test_by_itself(self):
        for program in [*samples().values(), *Maker(62).programs(30)]:
            for label in program.labels():
                self.assertEqual(replaced(program, label, program[label]), program)


class WrongRows(Case):
    def actions(self, program, label):
        """Functions of a row, and whether they put it into a loop, and into a part."""
        in_loop = any(program[outer][0] == "loop" for outer in program.around(label))
        in_part = program.part_of(label) != ""
        yield (lambda row: put_first(program, row)), False, False
        yield (lambda row: put_behind(program, label, row)), in_loop, in_part
        yield (lambda row: replaced(program, label, row)), in_loop, in_part

    def wrong(self, program, label, row):
        for action, _, _ in self.actions(program, label):
            self.raised(InvalidRow, {"value": row}, action, row)

    def test_values_of_all_kinds(self):
        for value in [*OTHERS, 0, "show", [], (), list(NEW), [NEW], (NEW,), small(), ("show",), ("show", "new")]:
            for label in ("l", "s", "w"):
                self.wrong(small(), label, value)

    def test_wrong_parts(self):
        right = {
            "set": ("set", "x", "a", ["b"]), "copy": ("copy", "x", "a", "b"), "point": ("point", "x", "p", "b"),
            "show": ("show", "x", "a"), "if": ("if", "x", ["a"], [], []), "loop": ("loop", "x", ["a"], []),
            "stop": ("stop", "x"), "call": ("call", "x", "q"),
        }
        program = Program(["a", "b"], [("call", "c", "q"), ("show", "w", "a")], pointers={"p": "a"}, parts={"q": []})
        for word, row in right.items():
            self.assertEqual(put_first(program, row)["x"][:2], (word, "x"))
            self.wrong(program, "w", row + ("a",))
            self.wrong(program, "w", row[:-1])
            self.wrong(program, "w", list(row))
            for place in range(len(row)):
                for value in [*OTHERS, 0, "z", ["z"], ("z",), [0], ["a"] * 4, ("show", "y", "a"), [["a"]]]:
                    if (place, value.__class__) != (1, str) or value == "" or not value.isalpha():
                        self.wrong(program, "w", row[:place] + (value,) + row[place + 1:])

    def test_rows_within(self):
        for inner in (("show", "y", "z"), ("leave", "y"), ["show", "y", "a"], ("show", "x", "a"), ("call", "y", "q"),
                      ("back", "y"), ("point", "y", "a", "a"), ("loop", "y", [], [("show", "y", "a")])):
            for row in (("if", "x", [], [inner], []), ("if", "x", [], (), (inner,)), ("if", "x", [], [("stop", "k")], [inner])):
                self.wrong(small(), "w", row)

    def test_labels_that_stay(self):
        for label in small().labels():
            for row in (("show", label, "a"), ("if", "new", [], [("show", label, "a")], []),
                        ("loop", "new", [], [("if", "x", [], [], [("stop", label)])])):
                self.raised(InvalidRow, {"value": row}, put_first, small(), row)
                for other in small().labels():
                    self.raised(InvalidRow, {"value": row}, put_behind, small(), other, row)
                    if label in [other, *small().within(other)]:
                        self.assertIn(label, replaced(small(), other, row))
                    else:
                        self.raised(InvalidRow, {"value": row}, replaced, small(), other, row)
        row = ("show", "t", "a")
        self.raised(InvalidRow, {"value": row}, put_first, parted(), row)
        self.raised(InvalidRow, {"value": row}, replaced, parted(), "i", row)

    def test_a_label_twice_in_the_row(self):
        for row in (("if", "x", [], [("stop", "x")], []), ("if", "x", [], [("stop", "y")], [("stop", "y")])):
            self.wrong(small(), "w", row)

    def test_jumps_where_they_must_not_stand(self):
        program = parted()
        for label in program.labels():
            for action, in_loop, in_part in self.actions(program, label):
                for word, right in (("leave", in_loop), ("next", in_loop), ("back", in_part)):
                    for row in ((word, "new"), ("if", "new", [], [], [(word, "x")]), ("loop", "new", [], [(word, "x")])):
                        if right or (row[0] == "loop" and word != "back"):
                            self.leads_on(action, row)
                        else:
                            self.raised(InvalidRow, {"value": row}, action, row)

    def leads_on(self, action, row):
        """The row can stand there; if one that calls the part is replaced, it is not called any more."""
        try:
            self.assertIn("new", action(row))
        except NotCalled as error:
            self.assertEqual(error.part, "q")

    def test_it_comes_ahead_of_the_programs_errors(self):
        row = ("show", "c", "z")
        self.raised(InvalidRow, {"value": row}, replaced, parted(), "c", row)
        full = Program(["a"], [("show", label, "a") for label in "abcdefghijkl"])
        row = ("show", "a", "a")
        self.raised(InvalidRow, {"value": row}, put_first, full, row)


class ErrorsOfPrograms(Case):
    def test_call_rings(self):
        program = Program(["a"], [("call", "c", "q")], parts={"q": [("call", "d", "r")], "r": [("show", "w", "a")]})
        self.assertEqual(put_behind(program, "c", ("call", "x", "r")).calls_of("r"), ["x", "d"])
        self.raised(CallRing, {"part": "q"}, put_behind, program, "w", ("call", "x", "q"))
        self.raised(CallRing, {"part": "r"}, put_behind, program, "w", ("call", "x", "r"))
        self.raised(CallRing, {"part": "q"}, put_behind, program, "d", ("call", "x", "q"))
        # Ahead of a part that is not called any more.
        self.raised(CallRing, {"part": "q"}, replaced, program, "d", ("call", "x", "q"))

    def test_parts_that_are_not_called_any_more(self):
        self.raised(NotCalled, {"part": "q"}, replaced, parted(), "c", ("show", "c", "a"))
        program = Program(["a"], [("call", "c", "q"), ("call", "e", "s")],
                          parts={"q": [("call", "d", "r")], "r": [], "s": []})
        self.raised(NotCalled, {"part": "q"}, replaced, program, "c", ("stop", "c"))
        self.raised(NotCalled, {"part": "r"}, replaced, program, "d", ("stop", "d"))
        self.raised(NotCalled, {"part": "s"}, replaced, program, "e", ("call", "e", "q"))

    def test_too_many(self):
        full = Program(["a"], [("show", label, "a") for label in "abcdefghijkl"])
        for action in (lambda row: put_first(full, row), lambda row: put_behind(full, "c", row)):
            self.too_many("rows", 12, action, NEW)
            self.too_many("rows", 12, action, ("loop", "x", [], [("loop", "y", [], [("loop", "z", [], [])])]))
        self.too_many("rows", 12, replaced, full, "a", ("if", "a", [], [("stop", "x")], []))
        self.assertEqual(len(replaced(full, "a", ("if", "a", [], [], []))), 12)

    def test_too_many_calls(self):
        parts = {"q": [("call", "d", "r")], "r": [("set", "s", "a", [])], "t": [("show", "w", "a")]}
        program = Program(["a"], [("call", "c", "q"), ("call", "e", "t")], parts=parts)
        self.too_many("calls", 2, put_behind, program, "s", ("call", "x", "t"))
        self.too_many("calls", 2, replaced, program, "s", ("if", "s", [], [("call", "x", "t")], []))
        self.assertEqual(put_behind(program, "d", ("call", "x", "t")).calls_of("t"), ["e", "x"])

    def test_too_many_loops(self):
        rows = [("loop", "k", [], [("call", "c", "q")])]
        program = Program(["a"], rows, parts={"q": [("loop", "l", [], [("set", "s", "a", [])])]})
        self.too_many("loops", 2, put_behind, program, "s", ("loop", "m", [], []))
        self.too_many("loops", 2, replaced, program, "s", ("if", "s", [], [], [("loop", "m", [], [])]))
        self.assertEqual(len(put_behind(program, "l", ("loop", "m", [], []))), 5)

    def test_which_comes_first(self):
        rows = [("loop", "k", [], [("loop", "l", [], [("call", "c", "q")])]), ("call", "e", "t")]
        parts = {"q": [("call", "d", "r")], "r": [("set", "s", "a", [])], "t": [("show", "w", "a")]}
        program = Program(["a"], rows, parts=parts)
        self.too_many("calls", 2, put_behind, program, "s", ("loop", "m", [], [("call", "x", "t")]))
        self.too_many("loops", 2, put_behind, program, "s", ("loop", "m", [], []))
        calls = [("call", label, "q") for label in "abcdef"]
        program = Program(["a"], [("loop", "k", [], [("loop", "l", [], calls)])],
                          parts={"q": [("show", label, "a") for label in "tuv"]})
        self.assertEqual(len(points(program)), 29)
        # As many rows as there may be, and 41 points.
        self.too_many("loops", 2, put_behind, program, "t", ("loop", "m", [], []))
        self.too_many("rows", 12, put_behind, program, "t", ("loop", "m", [], [("stop", "h")]))

    def test_too_many_points(self):
        calls = [("call", label, "q") for label in "abcdef"]
        program = Program(["a"], calls, parts={"q": [("show", label, "a") for label in "stuvw"]})
        self.assertEqual(len(points(program)), 37)
        self.too_many("points", 40, put_behind, program, "s", ("show", "x", "a"))
        self.too_many("points", 40, replaced, program, "s", ("loop", "s", [], []))
        self.assertEqual(len(points(put_first(program, ("loop", "x", [], [])))), 39)


class Still(Case):
    def test_labels_that_the_other_program_has_not(self):
        self.assertEqual(still(small(), ["l", "s"], Program(["a"])), [])
        self.assertEqual(still(small(), ["l", "s", "w"], Program(["x"], [("show", "w", "x")])), ["w"])
        self.assertEqual(still(small(), [], small()), [])
        self.assertEqual(still(small(), ("s", "l"), small()), ["l", "s"])

    def test_closed_there(self):
        other = put_behind(small(), "s", NEW)
        self.assertEqual(still(small(), ["l", "s"], other), ["l", "new", "s"])
        self.assertEqual(still(small(), ["s"], other), ["s"])
        other = Program(["a"], [("call", "l", "q")], parts={"q": [("show", "x", "a"), ("show", "w", "a")]})
        self.assertEqual(still(small(), ["l", "s"], other), ["l", "w", "x"])
        other = Program(["a"], [("if", "w", [], [("show", "l", "a")], [("set", "k", "a", [])])])
        self.assertEqual(still(small(), ["w"], other), ["k", "l", "w"])

    def test_no_closed_cut_there(self):
        # Of a closed cut a greater one may be left there, never a lesser one than its labels.
        for program in Maker(63).programs(40):
            other = Maker(len(program)).program()
            for cut in [Maker(64).cut(program), []]:
                known = [label for label in cut if label in other]
                self.assertEqual(still(program, cut, other), closed_of(other, known))

    def test_the_same_program(self):
        for program in samples().values():
            cut = Maker(65).cut(program)
            self.assertEqual(still(program, cut, program), cut)

    def test_errors(self):
        self.wrong_programs(lambda value: still(value, None, None))
        self.wrong_labels(lambda labels: still(small(), labels, None))
        for labels in (["s"], ["l"]):
            # That the cut is not closed comes behind the other program.
            self.wrong_programs(lambda value: still(small(), labels, value))
        self.not_closed(lambda labels: still(small(), labels, small()))


class StillRight(Case):
    def test_by_hand(self):
        twice = samples()["twice"]
        self.assertEqual(still_right(twice, twice, ["shows"]), [[], ["x"], ["y"]])
        # With another row ahead of the show neither copy is of any use.
        other = put_behind(twice, "y", ("set", "s", "a", ["b"]))
        self.assertEqual(still_right(twice, other, ["shows"]), [[], ["x"], ["y"]])
        self.assertEqual(still_right(other, twice, ["shows"]), [[], ["x"], ["y"]])
        other = replaced(twice, "x", ("set", "x", "a", ["a"]))
        self.assertEqual(still_right(twice, other, ["shows"]), [[], ["x"]])
        self.assertEqual(still_right(twice, Program(["a"]), ["shows"]), [[], ["x"], ["y"]])

    def test_against_a_direct_look(self):
        lost = 0
        for program in [*samples().values(), *Maker(66).programs(25)]:
            if len(program) > 6 or not len(program):
                continue
            label = program.labels()[-1]
            for other in (put_first(program, ("set", "new", "a", [])), put_behind(program, label, NEW), small(),
                          put_behind(program, label, ("copy", "new", "a", "a"))):
                for wish in (["shows"], ["ends", "no more"], list(VOWS)):
                    right = [cut for cut in all_closed(program) if is_right(program, cut, wish)]
                    expected = [cut for cut in right if is_right(other, still(program, cut, other), wish)]
                    self.assertEqual(still_right(program, other, wish), expected)
                    lost += len(right) - len(expected)
        self.assertGreater(lost, 10)

    def test_each_wish(self):
        other = put_behind(small(), "s", ("stop", "h"))
        for wish in wishes():
            expected = [cut for cut in all_closed(small()) if is_right(small(), cut, wish)
                        and is_right(other, still(small(), cut, other), wish)]
            self.assertEqual(still_right(small(), other, tuple(wish)), expected)

    def test_too_many_in_their_sequence(self):
        nine = Program(["a"], [("show", label, "a") for label in "abcdefghi"])
        for first in (nine, greater()):
            for second in (small(), nine, great(), greater()):
                self.too_many("rows", 8, still_right, first, second, ["shows"])
        for second in (small(), nine, great()):
            self.too_many("standings", 5000, still_right, great(), second, ["shows"])
        self.too_many("rows", 8, still_right, small(), nine, ["shows"])
        self.too_many("rows", 8, still_right, small(), greater(), ["shows"])
        # A cut of the other program that none of the first one leads to.
        self.too_many("standings", 5000, still_right, Program(["a"]), great(), ["shows"])

    def test_errors(self):
        self.wrong_programs(lambda value: still_right(value, None, None))
        for program in (small(), greater(), great()):
            self.wrong_programs(lambda value: still_right(program, value, None))
            self.wrong_wishes(lambda wish: still_right(program, program, wish))

    def test_what_is_told_can_be_changed(self):
        still_right(small(), small(), ["shows"])[1].append("z")
        self.assertEqual(still_right(small(), small(), ["shows"]), [[], ["l", "s"]])
        labels = ["l", "s"]
        still(small(), labels, small()).append("z")
        self.assertEqual(labels, ["l", "s"])


class AlwaysAlike(Case):
    def test_by_hand(self):
        self.assertEqual([always_alike(small(), ["s"], point) for point in range(5)], [["b"], [], ["b"], ["b"], []])
        self.assertEqual([always_alike(small(), [], point) for point in range(5)], [["a", "b"]] * 4 + [[]])
        self.assertEqual([always_alike(small(), ["l", "s"], point) for point in range(5)], [[], [], [], ["b"], []])

    def test_in_ascending_order(self):
        program = Program(["c", "a", "b"], [("set", "s", "a", []), ("show", "w", "b")])
        self.assertEqual(always_alike(program, [], 0), ["a", "b", "c"])
        self.assertEqual(always_alike(program, ["s"], 1), ["b", "c"])
        self.assertEqual(always_alike(program, ["s"], 0), [])

    def test_points_never_come_to_together(self):
        program = Program(["a"], [("stop", "h"), ("show", "w", "a")])
        self.assertEqual(always_alike(program, [], 1), [])
        self.assertEqual(always_alike(program, ["h"], 1), [])
        self.assertEqual(always_alike(program, [], 0), ["a"])

    def test_the_end(self):
        for program in samples().values():
            for cut in ([], program.labels()):
                self.assertEqual(always_alike(program, cut, len(points(program)) - 1), [])

    def test_against_a_look_at_the_table(self):
        found = set()
        for program in [*samples().values(), *Maker(67).programs(40)]:
            maker = Maker(len(program))
            for cut in [maker.cut(program) for _ in range(4)]:
                for point in range(len(points(program))):
                    both = [told[4] for told in table(program, cut) if told[0] == told[1] == point]
                    many = len(program.boxes())
                    expected = sorted(
                        box for place, box in enumerate(program.boxes())
                        if both and all(classes[place] == classes[place + many] >= 0 for classes in both)
                    )
                    self.assertEqual(always_alike(program, tuple(cut), point), expected)
                    found.add(len(expected))
        self.assertEqual(found, {0, 1, 2, 3})

    def test_a_table_that_is_too_great(self):
        for point in range(len(points(great()))):
            self.too_many("standings", 5000, always_alike, great(), ["f"], point)
        with mock.patch.object(tables, "MOST_STANDINGS", 12):
            self.too_many("standings", 12, always_alike, small(), ["s"], 3)
            self.assertEqual(always_alike(small(), ["l", "s"], 3), ["b"])

    def test_errors(self):
        self.wrong_programs(lambda value: always_alike(value, None, None))
        self.wrong_labels(lambda labels: always_alike(small(), labels, None))
        # The point hangs on the cut, and so comes behind it; the table comes last.
        for point in (0, None, 9):
            self.not_closed(lambda labels: always_alike(small(), labels, point))
        self.wrong_points(lambda point: always_alike(small(), ["s"], point))
        self.raised(InvalidPoint, {"value": 99}, always_alike, great(), ["f"], 99)


class Errors(Case):
    def test_program_and_label(self):
        self.wrong_programs(lambda value: put_first(value, None))
        for action in (put_behind, replaced):
            self.wrong_programs(lambda value: action(value, None, None))
            self.wrong_label(lambda label: action(small(), label, None))
            self.wrong_label(lambda label: action(small(), label, NEW))

    def test_other_programs(self):
        self.raised(InvalidProgram, {"value": None}, still_right, small(), None, ["shows"])


if __name__ == "__main__":
    unittest.main()

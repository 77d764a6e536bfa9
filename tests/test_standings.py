"""Standings: the first one, their moves, which are wrong, and those of plays."""

import inspect
import itertools
import unittest

from cutshows import checks, standings
from cutshows.cuts import all_closed, cut_program
from cutshows.errors import (
    InvalidLabels, InvalidPlay, InvalidProgram, InvalidStanding, InvalidVow, NotClosed, TwoWorlds,
)
from cutshows.partitions import Partition, all_partitions
from cutshows.plays import Play
from cutshows.points import points, ways
from cutshows.programs import Program
from cutshows.rounds import can_show, cut_ways, first_point, is_round
from cutshows.runs import Run
from cutshows.standings import VOWS, first_standing, is_standing, is_wrong, moves_from, through
from tests.common import OTHERS, Case, Maker, samples, small

L1, L2 = ("l", (1,)), ("l", (2,))


def operands(row):
    """The operands whose values a row reads."""
    return {"set": row[-1], "copy": row[-1:], "show": row[-1:], "if": row[2], "loop": row[2]}.get(row[0], ())


class Look:
    """A second look at one standing, by the words of the document and what the package tells elsewhere."""

    def __init__(self, program, cut, standing):
        self.program, self.cut, self.standing = program, cut, standing
        self.points, self.aims = standing[:2], standing[2:4]
        self.many = len(program.boxes())
        self.end = len(points(program)) - 1
        self.moving = [side for side in (0, 1) if standing[side] == min(self.points)]
        point = points(program)[min(self.points)]
        self.row = program[point[1]] if point[0] == "row" else ("",)

    def box(self, side, operand):
        boxes = self.program.boxes()
        if operand in boxes:
            return boxes.index(operand)
        return self.aims[side][sorted(self.program.pointers()).index(operand)]

    def holder(self, side, operand):
        return self.box(side, operand) + (self.many if side else 0)

    def is_alike(self):
        partition = Partition(self.standing[4])
        pairs = [(self.holder(0, operand), self.holder(1, operand)) for operand in operands(self.row)]
        return all(partition.is_alike(*pair) for pair in pairs)

    def partition(self):
        before = Partition(self.standing[4])
        targets = [self.holder(side, self.row[2]) for side in self.moving] if self.row[0] in ("set", "copy") else []
        if self.row[0] == "set" and len(targets) == 2 and self.is_alike():
            return before.fresh(*targets)
        after = before
        for side, target in zip(self.moving, targets):
            after = after.fresh(target) if self.row[0] == "set" else after.copied(target,
                self.holder(side, self.row[3]))
        return after

    def reached(self):
        found = [list(aims) for aims in self.aims]
        for side in self.moving if self.row[0] == "point" else []:
            found[side][sorted(self.program.pointers()).index(self.row[2])] = self.box(side, self.row[3])
        return tuple(tuple(aims) for aims in found)

    def ways(self, side):
        if side not in self.moving:
            return {None: self.points[side]}
        return cut_ways(self.program, self.cut, self.points[1]) if side else ways(self.program, self.points[0])

    def moves(self):
        if min(self.points) == self.end:
            return []
        over = self.end in self.points
        found = []
        for whole, cut in itertools.product(self.ways(0), self.ways(1)):
            if len(self.moving) == 2 and whole != cut and self.is_alike():
                continue
            aims = (self.ways(0)[whole], self.ways(1)[cut])
            if over or self.end in aims:
                nothing = (0,) * len(self.program.pointers())
                found.append(((whole, cut), (*aims, nothing, nothing, (-1,) * (2 * self.many))))
            else:
                found.append(((whole, cut), (*aims, *self.reached(), self.partition().classes)))
        return sorted(found, key=lambda move: [answer is True for answer in move[0]])

    def is_wrong(self, vow):
        whole, cut = self.points
        if vow == "ends":
            return cut < whole and is_round(self.program, self.cut, cut, whole)
        if vow == "shows":
            stays = cut < whole and is_round(self.program, self.cut, cut, whole)
            return self.shows_wrongly(0) or (stays and can_show(self.program, [], whole))
        stays = whole < cut and is_round(self.program, [], whole, cut)
        return self.shows_wrongly(1) or (stays and can_show(self.program, self.cut, cut))

    def shows_wrongly(self, side):
        if self.row[0] != "show" or side not in self.moving:
            return False
        return len(self.moving) == 1 or not self.is_alike()


def table(program, cut, most=400):
    """Standings that can be reached from the first one, up to about so many."""
    found = [first_standing(program, cut)]
    for standing in found:
        if len(found) > most:
            break
        found += [after for _, after in moves_from(program, cut, standing) if after not in found]
    return found


def side_by_side(program, cut, whole_yes, cut_yes):
    """The standings of a play, from two runs and the symbols in their boxes."""
    rest = cut_program(program, cut)
    whole = Run(program, whole_yes)
    other = Run(rest, cut_yes, whole.symbols)
    listed, kept = points(program), points(rest)
    boxes = program.boxes()
    found = []
    while True:
        places = (whole.point, listed.index(kept[other.point]))
        if len(listed) - 1 in places:
            nothing = (0,) * len(program.pointers())
            found.append((*places, nothing, nothing, (-1,) * (2 * len(boxes))))
        else:
            held = [run.contents()[box] for run in (whole, other) for box in boxes]
            aims = [tuple(boxes.index(box) for box in run.reached().values()) for run in (whole, other)]
            numbers = list(dict.fromkeys(held))
            found.append((*places, *aims, tuple(numbers.index(number) for number in held)))
        if places == (len(listed) - 1,) * 2:
            return found
        for run, place in ((whole, places[0]), (other, places[1])):
            if place == min(places):
                run.move()


def one_world(program, cut, whole_yes, cut_yes):
    try:
        return Play(program, cut, whole_yes, cut_yes)
    except TwoWorlds:
        return None


def made_cuts(seed, many):
    maker = Maker(seed)
    for program in [*samples().values(), *maker.programs(many)]:
        for cut in ([], maker.cut(program), maker.cut(program)):
            yield maker, program, cut


class Examples(Case):
    def test_word_for_word(self):
        self.word_for_word("""
            >>> from cutshows.programs import Program
            >>> small = Program(["a", "b"], [("loop", "l", ["a"], [("set", "s", "a", ["a"])]), ("show", "w", "b")])
            >>> from cutshows.standings import first_standing, moves_from
            >>> first_standing(small, ["s"])
            (0, 0, (), (), (0, 1, 0, 1))
            >>> moves_from(small, ["s"], (1, 2, (), (), (0, 1, 0, 1)))
            [((None, None), (2, 2, (), (), (0, 1, 2, 1)))]
        """, 5, "Stage 5")


class Interface(Case):
    def test_each_is_defined_in_its_file(self):
        names = {
            first_standing: ["program", "labels"], is_standing: ["program", "labels", "value"],
            moves_from: ["program", "labels", "standing"], is_wrong: ["program", "labels", "standing", "vow"],
            through: ["play"],
        }
        for function, parameters in names.items():
            self.assertEqual(function.__module__, standings.__name__)
            self.assertEqual(list(inspect.signature(function).parameters), parameters)

    def test_vows(self):
        self.assertEqual(VOWS, ("shows", "no more", "ends"))
        self.assertIs(VOWS.__class__, tuple)
        self.assertEqual(checks.KNOWN_VOWS, VOWS)


class First(Case):
    def test_boxes_alike_in_both(self):
        for many, classes in ((1, (0, 0)), (2, (0, 1, 0, 1)), (3, (0, 1, 2, 0, 1, 2))):
            program = Program(["c", "a", "b"][:many], [("show", "x", "c"), ("show", "y", "c")])
            self.assertEqual(first_standing(program, []), (0, 0, (), (), classes))
            self.assertEqual(first_standing(program, ["y"]), (0, 0, (), (), classes))
            self.assertEqual(first_standing(program, ["x"]), (0, 1, (), (), classes))

    def test_pointers_in_ascending_order(self):
        program = samples()["pointed"]
        self.assertEqual(first_standing(program, ["m"]), (0, 1, (0, 2), (0, 2), (0, 1, 2, 0, 1, 2)))
        other = Program(["b", "a"], [("show", "x", "a")], pointers={"q": "b", "p": "a"})
        self.assertEqual(first_standing(other, []), (0, 0, (1, 0), (1, 0), (0, 1, 0, 1)))

    def test_all_left_out(self):
        self.assertEqual(first_standing(small(), ["l", "s", "w"]), (0, 4, (), (), (-1,) * 4))
        self.assertEqual(first_standing(samples()["pointed"], list("mnstwx")), (0, 6, (0, 0), (0, 0), (-1,) * 6))

    def test_no_rows(self):
        self.assertEqual(first_standing(Program(["a"]), []), (0, 0, (), (), (-1, -1)))
        self.assertEqual(first_standing(Program(["a", "b"], pointers={"p": "b"}), ()), (0, 0, (0,), (0,), (-1,) * 4))

    def test_left_out_calls(self):
        program = Program(["a"], [("call", "c", "q"), ("call", "d", "q")], parts={"q": [("show", "x", "a")]})
        self.assertEqual(first_standing(program, ["c"])[:2], (0, 2))


class Moves(Case):
    def goes(self, program, cut, standing, expected):
        """The moves, told as a dict; the answers are in ascending order, False ahead of True."""
        found = moves_from(program, cut, standing)
        self.assertEqual(found, list(expected.items()))
        self.assertIs(found.__class__, list)
        for answers, after in found:
            self.assertTrue(all(answer is None or answer.__class__ is bool for answer in answers))
            self.assertTrue(is_standing(program, cut, after))

    def one(self, program, cut, standing, after):
        self.goes(program, cut, standing, {(None, None): after})

    def test_set_alone(self):
        # 0 s, 1 t, 2 x, 3 end
        program = Program(["a", "b"], [("set", "s", "a", ["b"]), ("set", "t", "b", []), ("show", "x", "a")])
        self.one(program, ["s"], (0, 1, (), (), (0, 1, 0, 1)), (1, 1, (), (), (0, 1, 2, 1)))
        self.one(program, ["t"], (1, 2, (), (), (0, 1, 0, 1)), (2, 2, (), (), (0, 1, 0, 2)))
        self.one(program, [], (2, 1, (), (), (0, 1, 0, 1)), (2, 2, (), (), (0, 1, 0, 2)))
        self.one(program, [], (2, 0, (), (), (0, 0, 0, 0)), (2, 1, (), (), (0, 0, 1, 0)))

    def test_set_by_both(self):
        program = Program(["a", "b"], [("set", "s", "a", ["b", "a"]), ("set", "t", "b", []), ("show", "x", "a")])
        self.one(program, [], (0, 0, (), (), (0, 1, 0, 1)), (1, 1, (), (), (0, 1, 0, 1)))
        # Unlike values: each target is in a class of its own.
        self.one(program, [], (0, 0, (), (), (0, 1, 2, 1)), (1, 1, (), (), (0, 1, 2, 1)))
        self.one(program, [], (0, 0, (), (), (0, 0, 0, 1)), (1, 1, (), (), (0, 1, 2, 3)))
        # The values read are the same two, but not one by one.
        self.one(program, [], (0, 0, (), (), (0, 1, 1, 0)), (1, 1, (), (), (0, 1, 2, 3)))
        self.one(program, [], (0, 0, (), (), (0, 0, 0, 0)), (1, 1, (), (), (0, 1, 0, 1)))
        # If nothing is read, the results are alike.
        self.one(program, [], (1, 1, (), (), (0, 1, 2, 3)), (2, 2, (), (), (0, 1, 2, 1)))

    def test_copy_alone_and_by_both(self):
        program = Program(["a", "b"], [("copy", "c", "a", "b"), ("show", "x", "a")])
        self.one(program, ["c"], (0, 1, (), (), (0, 1, 0, 1)), (1, 1, (), (), (0, 0, 1, 0)))
        self.one(program, [], (0, 0, (), (), (0, 1, 0, 1)), (1, 1, (), (), (0, 0, 0, 0)))
        self.one(program, [], (0, 0, (), (), (0, 1, 2, 3)), (1, 1, (), (), (0, 0, 1, 1)))
        self.one(program, [], (1, 0, (), (), (0, 1, 2, 3)), (1, 1, (), (), (0, 1, 2, 2)))
        same = Program(["a", "b"], [("copy", "c", "a", "a"), ("show", "x", "a")])
        self.one(same, [], (0, 0, (), (), (0, 1, 1, 0)), (1, 1, (), (), (0, 1, 1, 0)))

    def test_show_stop_call_and_jumps(self):
        program = Program(["a"], [
            ("loop", "l", [], [("if", "i", [], [("leave", "v")], [("next", "n")])]), ("call", "c", "q"),
            ("show", "w", "a"), ("stop", "h"),
        ], parts={"q": [("back", "b")]})
        # 0 l, 1 i, 2 v, 3 n, 4 pass l, 5 c, 6 b, 7 w, 8 h, 9 end
        for classes in ((0, 0), (0, 1)):
            for before, after in (((2, 2), (5, 5)), ((3, 3), (4, 4)), ((4, 4), (0, 0)), ((5, 5), (6, 6)),
                ((6, 6), (7, 7)), ((7, 7), (8, 8)),
                                  ((2, 3), (5, 3)), ((3, 2), (3, 5)), ((4, 8), (0, 8)), ((5, 4), (5, 0))):
                self.one(program, [], (*before, (), (), classes), (*after, (), (), classes))

    def test_a_test_alone(self):
        program = small()
        for whole, cut in ((0, 3), (0, 2)):
            self.goes(program, ["s"], (whole, cut, (), (), (0, 1, 0, 1)), {
                (False, None): (3, cut, (), (), (0, 1, 0, 1)), (True, None): (1, cut, (), (), (0, 1, 0, 1)),
            })
        self.goes(program, ["s"], (1, 0, (), (), (0, 1, 2, 1)), {
            (None, False): (1, 3, (), (), (0, 1, 2, 1)), (None, True): (1, 2, (), (), (0, 1, 2, 1)),
        })

    def test_a_test_by_both(self):
        program = small()
        for classes in ((0, 1, 0, 1), (0, 1, 0, 2), (0, 0, 0, 0)):
            self.goes(program, ["s"], (0, 0, (), (), classes), {
                (False, False): (3, 3, (), (), classes), (True, True): (1, 2, (), (), classes),
            })
        for classes in ((0, 1, 2, 1), (0, 1, 1, 0), (0, 0, 1, 0)):
            self.goes(program, ["s"], (0, 0, (), (), classes), {
                (False, False): (3, 3, (), (), classes), (False, True): (3, 2, (), (), classes),
                (True, False): (1, 3, (), (), classes), (True, True): (1, 2, (), (), classes),
            })

    def test_a_test_of_nothing_and_of_several(self):
        program = Program(["a", "b"], [("if", "i", [], [("show", "x", "a")], []),
            ("if", "j", ["a", "b"], [], [("show", "y", "a")])])
        # 0 i, 1 x, 2 j, 3 y, 4 end
        self.goes(program, [], (0, 0, (), (), (0, 1, 2, 3)), {
            (False, False): (2, 2, (), (), (0, 1, 2, 3)), (True, True): (1, 1, (), (), (0, 1, 2, 3)),
        })
        self.assertEqual([answers for answers, _ in moves_from(program, [], (2, 2, (), (), (0, 1, 0, 1)))],
            [(False, False), (True, True)])
        for classes in ((0, 1, 0, 2), (0, 1, 2, 1), (0, 1, 1, 0)):
            self.assertEqual(len(moves_from(program, [], (2, 2, (), (), classes))), 4)

    def test_reaching_the_end(self):
        program = Program(["a"], [("if", "i", ["p"], [("show", "x", "a")], []), ("set", "s", "p", [])],
            pointers={"p": "a"})
        # 0 i, 1 x, 2 s, 3 end
        gone = (-1, -1)
        self.goes(program, ["s"], (0, 0, (0,), (0,), (0, 0)), {
            (False, False): (2, 3, (0,), (0,), gone), (True, True): (1, 1, (0,), (0,), (0, 0)),
        })
        self.one(program, ["s"], (2, 3, (0,), (0,), gone), (3, 3, (0,), (0,), gone))
        self.one(program, [], (2, 2, (0,), (0,), (0, 1)), (3, 3, (0,), (0,), gone))
        two = Program(["a", "b"], [("set", "s", "p", []), ("set", "t", "p", [])], pointers={"p": "b"})
        self.one(two, ["t"], (0, 0, (1,), (1,), (0, 1, 0, 1)), (1, 2, (0,), (0,), (-1,) * 4))

    def test_a_side_at_the_end(self):
        program = small()
        gone = (-1,) * 4
        for point, after in ((1, 2), (2, 0), (3, 4)):
            self.one(program, [], (point, 4, (), (), gone), (after, 4, (), (), gone))
            self.one(program, [], (4, point, (), (), gone), (4, after, (), (), gone))
        self.goes(program, [], (0, 4, (), (), gone),
            {(False, None): (3, 4, (), (), gone), (True, None): (1, 4, (), (), gone)})
        self.goes(program, ["s"], (4, 0, (), (), gone),
            {(None, False): (4, 3, (), (), gone), (None, True): (4, 2, (), (), gone)})
        pointed = samples()["pointed"]
        for point in range(6):
            for side in (0, 1):
                before = (point, 6) if side else (6, point)
                after = (point + 1, 6) if side else (6, point + 1)
                self.one(pointed, [], (*before, (0, 0), (0, 0), (-1,) * 6), (*after, (0, 0), (0, 0), (-1,) * 6))

    def test_both_at_the_end(self):
        self.assertEqual(moves_from(small(), ["s"], (4, 4, (), (), (-1,) * 4)), [])
        self.assertEqual(moves_from(Program(["a"]), [], (0, 0, (), (), (-1, -1))), [])

    def test_pointers_of_each_side(self):
        # 0 m (p to b), 1 s (p := q, a), 2 n (q to p), 3 t (q := c), 4 w, 5 x, 6 end
        program = samples()["pointed"]
        same = (0, 1, 2, 0, 1, 2)
        self.one(program, [], (0, 0, (0, 2), (0, 2), same), (1, 1, (1, 2), (1, 2), same))
        self.one(program, ["m"], (0, 1, (0, 2), (0, 2), same), (1, 1, (1, 2), (0, 2), same))
        self.one(program, ["m"], (1, 1, (1, 2), (0, 2), same), (2, 2, (1, 2), (0, 2), (0, 1, 2, 1, 3, 2)))
        # The values that both sides read by q and a are alike, or not.
        self.one(program, [], (1, 1, (1, 2), (1, 2), same), (2, 2, (1, 2), (1, 2), (0, 1, 2, 0, 1, 2)))
        self.one(program, [], (1, 1, (1, 2), (1, 1), same), (2, 2, (1, 2), (1, 1), (0, 1, 2, 0, 3, 2)))
        self.one(program, [], (1, 1, (1, 2), (1, 1), (0, 1, 2, 0, 2, 1)), (2, 2, (1, 2), (1, 1), (0, 1, 2, 0, 1, 3)))
        self.one(program, [], (2, 2, (1, 2), (0, 2), same), (3, 3, (1, 1), (0, 0), same))
        self.one(program, [], (3, 2, (1, 2), (0, 2), same), (3, 3, (1, 2), (0, 0), same))
        self.one(program, [], (3, 3, (1, 1), (0, 0), same), (4, 4, (1, 1), (0, 0), (0, 1, 1, 1, 2, 1)))
        self.one(program, [], (3, 4, (1, 2), (0, 0), same), (4, 4, (1, 2), (0, 0), same))
        self.one(program, [], (4, 3, (1, 2), (0, 1), same), (4, 4, (1, 2), (0, 1), (0, 1, 2, 0, 2, 2)))

    def test_a_pointer_to_what_it_reaches_itself(self):
        program = Program(["a", "b"], [("point", "m", "p", "p"), ("point", "n", "p", "q"), ("show", "x", "p")],
                          pointers={"p": "a", "q": "b"})
        self.one(program, [], (0, 0, (0, 1), (1, 1), (0, 1, 0, 1)), (1, 1, (0, 1), (1, 1), (0, 1, 0, 1)))
        self.one(program, [], (1, 1, (0, 1), (1, 0), (0, 1, 0, 1)), (2, 2, (1, 1), (0, 0), (0, 1, 0, 1)))

    def test_a_test_that_reads_pointers(self):
        program = Program(["a", "b"], [("if", "i", ["p"], [], [("stop", "h")]), ("show", "x", "a")],
            pointers={"p": "a"})
        for aims, classes, many in (
            (((0,), (0,)), (0, 1, 0, 2), 2), (((0,), (1,)), (0, 1, 0, 1), 4), (((0,), (1,)), (0, 1, 1, 0), 2),
            (((1,), (1,)), (0, 1, 0, 2), 4),
        ):
            self.assertEqual(len(moves_from(program, [], (0, 0, *aims, classes))), many)

    def test_standings_that_cannot_be_reached(self):
        program = samples()["calls"]
        listed = points(program)
        for cut in ([], ["c"], list("ftizy")):
            kept = [point for point, told in enumerate(listed) if not {told[1], *told[2]} & set(cut)]
            for whole, other in itertools.product(range(len(listed) - 1), kept[:-1]):
                for classes in ((0, 1, 0, 1), (0, 1, 2, 0), (0, 0, 1, 1)):
                    standing = (whole, other, (), (), classes)
                    self.assertEqual(moves_from(program, cut, standing), Look(program, cut, standing).moves())

    def test_against_a_second_look(self):
        many = 0
        for _, program, cut in made_cuts(14, 50):
            for standing in table(program, cut, 60):
                many += 1
                found = moves_from(program, cut, standing)
                self.assertEqual(found, Look(program, cut, standing).moves(), (program, cut, standing))
                for _, after in found:
                    self.assertTrue(is_standing(program, cut, after))
        self.assertGreater(many, 1000)

    def test_all_partitions_of_a_small_program(self):
        program = Program(["a", "b"], [("set", "s", "p", ["a", "p"]), ("copy", "c", "b", "p"),
            ("if", "i", ["p"], [], []), ("show", "w", "p")],
                          pointers={"p": "a"})
        for cut in ([], ["c"]):
            for whole, other, partition in itertools.product(range(4), [0, 2, 3], list(all_partitions(4))):
                for aims in itertools.product([(0,), (1,)], repeat=2):
                    standing = (whole, other, *aims, partition.classes)
                    self.assertEqual(moves_from(program, cut, standing), Look(program, cut, standing).moves())
                    for vow in VOWS:
                        self.assertIs(is_wrong(program, cut, standing, vow), Look(program, cut, standing).is_wrong(vow))


class Wrong(Case):
    def wrong(self, program, cut, standing, *vows):
        """The standing is wrong for just these vows."""
        self.assertEqual(tuple(vow for vow in VOWS if is_wrong(program, cut, standing, vow)), vows)
        for vow in VOWS:
            self.assertIs(is_wrong(program, cut, standing, vow).__class__, bool)

    def test_a_show_alone(self):
        # 0 x, 1 s, 2 y, 3 end
        program = Program(["a"], [("show", "x", "a"), ("set", "s", "a", []), ("show", "y", "a")])
        for classes in ((0, 0), (0, 1)):
            self.wrong(program, [], (0, 1, (), (), classes), "shows")
            self.wrong(program, [], (0, 2, (), (), classes), "shows")
            self.wrong(program, [], (1, 0, (), (), classes), "no more")
            self.wrong(program, [], (1, 2, (), (), classes))
            self.wrong(program, [], (2, 1, (), (), classes))
            self.wrong(program, [], (1, 1, (), (), classes))
        self.wrong(program, [], (0, 3, (), (), (-1, -1)), "shows")
        self.wrong(program, [], (3, 0, (), (), (-1, -1)), "no more")
        self.wrong(program, [], (2, 3, (), (), (-1, -1)), "shows")
        self.wrong(program, [], (1, 3, (), (), (-1, -1)))
        self.wrong(program, [], (3, 3, (), (), (-1, -1)))

    def test_a_show_by_both(self):
        program = Program(["a", "b"], [("show", "x", "a"), ("show", "y", "p"), ("show", "z", "b")], pointers={"p": "a"})
        for point, aims, classes, is_right in (
            (0, ((0,), (0,)), (0, 1, 0, 1), True), (0, ((0,), (1,)), (0, 1, 0, 2), True),
            (0, ((0,), (0,)), (0, 1, 1, 0), False),
            (1, ((0,), (0,)), (0, 1, 0, 2), True), (1, ((0,), (1,)), (0, 1, 0, 1), False),
            (1, ((0,), (1,)), (0, 1, 2, 0), True),
            (2, ((0,), (0,)), (0, 1, 2, 1), True), (2, ((0,), (0,)), (0, 1, 0, 2), False),
        ):
            self.wrong(program, [], (point, point, *aims, classes), *([] if is_right else ["shows", "no more"]))

    def test_staying_for_ever(self):
        # 0 l, 1 s, 2 pass l, 3 w, 4 end
        program, same = small(), (0, 1, 0, 1)
        self.wrong(program, ["s"], (3, 0, (), (), same), "shows", "ends")
        self.wrong(program, ["s"], (3, 2, (), (), same), "shows", "ends")
        self.wrong(program, [], (3, 1, (), (), same), "shows", "ends")
        self.wrong(program, [], (0, 3, (), (), same), "no more")
        self.wrong(program, ["s"], (1, 3, (), (), same), "no more")
        self.wrong(program, [], (2, 3, (), (), same), "no more")
        # Nothing is shown any more.
        gone = (-1,) * 4
        self.wrong(program, ["s"], (4, 0, (), (), gone), "ends")
        self.wrong(program, ["s"], (4, 2, (), (), gone), "ends")
        self.wrong(program, ["s"], (0, 4, (), (), gone))
        # Both are in the loop, so the other one comes there, too.
        for whole, cut in ((0, 2), (2, 0), (1, 2), (0, 0), (2, 2)):
            self.wrong(program, ["s"], (whole, cut, (), (), same))

    def test_a_show_that_can_be_reached_later(self):
        # 0 l, 1 pass l, 2 s, 3 i, 4 x, 5 t, 6 end
        program = Program(["a"], [("loop", "l", [], []), ("set", "s", "a", []),
            ("if", "i", [], [("show", "x", "a")], []), ("set", "t", "a", [])])
        for point in (2, 3, 4):
            self.wrong(program, [], (point, 0, (), (), (0, 0)), "shows", "ends")
            self.wrong(program, [], (0, point, (), (), (0, 0)), "no more")
        self.wrong(program, [], (5, 0, (), (), (0, 0)), "ends")
        self.wrong(program, [], (0, 5, (), (), (0, 0)))
        # It counts by the ways of the side that shows: the whole one for "shows", the cut one for "no more".
        self.wrong(program, ["x"], (3, 1, (), (), (0, 0)), "shows", "ends")
        self.wrong(program, ["x"], (1, 3, (), (), (0, 0)))

    def test_rounds_are_those_of_the_side_that_stays(self):
        # 0 l, 1 v, 2 pass l, 3 w, 4 end: without the leave the cut program can stay.
        program = Program(["a"], [("loop", "l", [], [("leave", "v")]), ("show", "w", "a")])
        self.wrong(program, ["v"], (3, 0, (), (), (0, 0)), "shows", "ends")
        self.wrong(program, [], (3, 0, (), (), (0, 0)))
        self.wrong(program, ["v"], (0, 3, (), (), (0, 0)))
        self.wrong(program, ["v"], (2, 3, (), (), (0, 0)))

    def test_at_a_show_within_a_round(self):
        # 0 o, 1 x, 2 pass o, 3 w, 4 end
        program = Program(["a"], [("loop", "o", [], [("show", "x", "a")]), ("show", "w", "a")])
        self.wrong(program, [], (3, 1, (), (), (0, 0)), "shows", "no more", "ends")
        self.wrong(program, [], (1, 3, (), (), (0, 0)), "shows", "no more")
        self.wrong(program, [], (4, 1, (), (), (-1, -1)), "no more", "ends")
        self.wrong(program, [], (1, 4, (), (), (-1, -1)), "shows")

    def test_inner_rounds(self):
        # 0 o, 1 l, 2 pass l, 3 w, 4 pass o, 5 end
        program = Program(["a"], [("loop", "o", [], [("loop", "l", [], []), ("show", "w", "a")])])
        self.wrong(program, [], (3, 1, (), (), (0, 0)), "shows", "ends")
        self.wrong(program, [], (4, 2, (), (), (0, 0)), "shows", "ends")
        self.wrong(program, [], (3, 0, (), (), (0, 0)))
        self.wrong(program, [], (0, 3, (), (), (0, 0)))
        self.wrong(program, [], (1, 3, (), (), (0, 0)), "no more")
        self.wrong(program, [], (5, 0, (), (), (-1, -1)), "ends")
        self.wrong(program, [], (5, 1, (), (), (-1, -1)), "ends")

    def test_against_a_second_look(self):
        found = {(vow, told): 0 for vow in VOWS for told in (False, True)}
        for _, program, cut in made_cuts(15, 50):
            for standing in table(program, cut, 50):
                for vow in VOWS:
                    told = Look(program, cut, standing).is_wrong(vow)
                    found[(vow, told)] += 1
                    self.assertIs(is_wrong(program, cut, standing, vow), told, (program, cut, standing, vow))
        self.assertGreater(min(found.values()), 20)

    def test_all_points_of_small_programs(self):
        for name in ("small", "hollow", "branch", "late"):
            program = samples()[name]
            many, end = len(program.boxes()), len(points(program)) - 1
            for cut in list(all_closed(program))[:12]:
                for whole, other in itertools.product(range(end + 1), repeat=2):
                    classes = (-1,) * 2 * many if end in (whole, other) else tuple(range(2 * many))
                    standing = (whole, other, (), (), classes)
                    if is_standing(program, cut, standing):
                        for vow in VOWS:
                            self.assertIs(is_wrong(program, cut, standing, vow),
                                Look(program, cut, standing).is_wrong(vow))


class IsStanding(Case):
    def test_right_ones(self):
        for standing in (
            (0, 0, (), (), (0, 1, 0, 1)), (3, 2, (), (), (0, 0, 0, 0)), (1, 0, (), (), (0, 1, 2, 3)),
            (0, 4, (), (), (-1,) * 4),
            (4, 0, (), (), (-1,) * 4), (4, 4, (), (), (-1,) * 4),
        ):
            self.assertIs(is_standing(small(), ["s"], standing), True)
        pointed = samples()["pointed"]
        for aims in itertools.product(range(3), repeat=4):
            self.assertIs(is_standing(pointed, ["m"], (0, 1, aims[:2], aims[2:], (0, 1, 2, 0, 1, 2))), True)
            self.assertIs(is_standing(pointed, ["m"], (0, 6, aims[:2], aims[2:], (-1,) * 6)), aims == (0,) * 4)
            self.assertIs(is_standing(pointed, ["m"], (6, 1, aims[:2], aims[2:], (-1,) * 6)), aims == (0,) * 4)

    def near(self, program, cut, right, place, values):
        self.assertIs(is_standing(program, cut, right), True)
        for value in values:
            wrong = right[:place] + (value,) + right[place + 1:]
            self.assertIs(is_standing(program, cut, wrong), False, place)
            self.raised(InvalidStanding, {"value": wrong}, moves_from, program, cut, wrong)
            self.raised(InvalidStanding, {"value": wrong}, is_wrong, program, cut, wrong, "ends")

    def test_near_a_right_one(self):
        right = (1, 0, (), (), (0, 1, 0, 1))
        others = [*OTHERS, [], (0,), [0], "0"]
        self.near(small(), ["s"], right, 0, [*others, 4, 5, -2, 999999999])
        self.near(small(), ["s"], right, 1, [*others, 1, 4, 5, -2])
        self.near(small(), ["s"], right, 2, [*others, 0, (0, 0)])
        self.near(small(), ["s"], right, 3, [*others, 0, (0, 0)])
        self.near(small(), ["s"], right, 4, [
            *others, [0, 1, 0, 1], (), (0, 1), (0, 1, 0), (0, 1, 0, 1, 0), (1, 0, 1, 0), (0, 2, 0, 2), (0, 1, 0, -1),
            (-1,) * 4,
            (-1, 0, 1, 2), (0, 1, 0, True), (False, 1, 0, 1), (0, True, 0, 1), (0, 1, 0, "1"), (0, 1, 0, None),
            (0, 1, 0, (1,)),
            (0, 1, 0, 3), (0, 0, 0, 2), (-2, 0, 1, 2),
        ])

    def test_near_one_with_pointers(self):
        right = (1, 3, (1, 2), (0, 2), (0, 1, 2, 0, 1, 3))
        values = [
            *OTHERS, (), (0,), (0, 1, 2), [1, 2], [0, 2], (0, 3), (3, 0), (-1, 0), (0, -1), (True, 2), (0, False),
            ("a", "b"), (None, 0),
            ((0,), 0), 0,
        ]
        for place in (2, 3):
            self.near(samples()["pointed"], ["m", "n"], right, place, values)

    def test_near_one_at_the_end(self):
        gone = (-1,) * 4
        self.near(small(), ["s"], (0, 4, (), (), gone), 4,
            [(0, 1, 0, 1), (0, 0, 0, 0), (-1,) * 3, (-1,) * 5, [-1] * 4, (-1, -1, -1, 0), (-1, -1, 0, 1)])
        self.near(small(), ["s"], (4, 4, (), (), gone), 4, [(0, 1, 0, 1), (0, -1, -1, -1), (-1,) * 2, ()])
        self.near(small(), ["s"], (4, 4, (), (), gone), 0, [True, 5, "4", None, -1])
        program = Program(["a", "b"], [("show", "x", "a")], pointers={"p": "b"})
        self.near(program, [], (1, 0, (0,), (0,), gone), 2, [(1,), (False,), [0], (), (0, 0)])
        self.near(program, [], (1, 0, (0,), (0,), gone), 3, [(1,), (False,), [0], (), (0, 0)])
        self.near(program, [], (0, 0, (1,), (1,), (0, 1, 0, 1)), 1, [1])

    def test_left_out_points_of_the_cut_program(self):
        for point in (0, 1, 2):
            self.assertIs(is_standing(small(), ["l", "s"], (0, point, (), (), (0, 1, 0, 1))), False)
            self.assertIs(is_standing(small(), ["l", "s"], (point, 3, (), (), (0, 1, 0, 1))), True)
        program = Program(["a"], [("call", "c", "q"), ("call", "d", "q")], parts={"q": [("show", "x", "a")]})
        found = [point for point in range(5) if is_standing(program, ["c"], (0, point, (), (), (0, 0)))]
        self.assertEqual(found, [2, 3])

    def test_values_of_other_kinds(self):
        right = (1, 0, (), (), (0, 1, 0, 1))
        for value in [*OTHERS, 0, "standing", [], (), right[:4], right + (0,), list(right), (right,), [right], small()]:
            self.assertIs(is_standing(small(), ["s"], value), False)
            self.raised(InvalidStanding, {"value": value}, moves_from, small(), ["s"], value)
            self.raised(InvalidStanding, {"value": value}, is_wrong, small(), ["s"], value, "shows")

    def test_as_many_boxes_as_there_are(self):
        for many in (1, 2, 3):
            program = Program(["a", "b", "c"][:many], [("show", "x", "a")])
            for holders in range(1, 9):
                self.assertIs(is_standing(program, [], (0, 0, (), (), tuple(range(holders)))), holders == 2 * many)


class Through(Case):
    def test_the_documents_play(self):
        play = Play(small(), ["s"], [L1], [L1, L2])
        self.assertEqual(through(play), [
            (0, 0, (), (), (0, 1, 0, 1)), (1, 2, (), (), (0, 1, 0, 1)), (2, 2, (), (), (0, 1, 2, 1)),
            (0, 0, (), (), (0, 1, 2, 1)),
            (3, 2, (), (), (0, 1, 2, 1)), (3, 0, (), (), (0, 1, 2, 1)), (3, 3, (), (), (0, 1, 2, 1)),
            (4, 4, (), (), (-1,) * 4),
        ])

    def test_nothing_to_do(self):
        self.assertEqual(through(Play(Program(["a"]), [], [], [])), [(0, 0, (), (), (-1, -1))])
        self.assertEqual(through(Play(small(), ["l", "s", "w"], [], [])), [
            (0, 4, (), (), (-1,) * 4), (3, 4, (), (), (-1,) * 4), (4, 4, (), (), (-1,) * 4),
        ])

    def test_it_begins_and_ends(self):
        play = Play(samples()["pointed"], ["m"], [], [])
        found = through(play)
        self.assertIs(found.__class__, list)
        self.assertEqual(found[0], first_standing(play.program, ["m"]))
        self.assertEqual([found[1], found[-1]], [(1, 1, (1, 2), (0, 2), (0, 1, 2, 0, 1, 2)),
            (6, 6, (0, 0), (0, 0), (-1,) * 6)])

    def test_against_two_runs_side_by_side(self):
        many = 0
        for maker, program, cut in made_cuts(16, 80):
            rest = cut_program(program, cut)
            whole_yes = maker.yes(program)
            copied = [told for told in whole_yes if told[0] in rest.tests()]
            for cut_yes in ([], copied, maker.yes(rest), copied + maker.yes(rest, 2)):
                play = one_world(program, cut, whole_yes, cut_yes)
                if play is None:
                    continue
                many += 1
                found = through(play)
                self.assertEqual(found, side_by_side(program, cut, whole_yes, cut_yes),
                    (program, cut, whole_yes, cut_yes))
                for before, after in zip(found, found[1:]):
                    self.assertIn(after, [told for _, told in moves_from(program, cut, before)])
                for vow in ("shows", "no more"):
                    # A play that does not keep a vow goes through a wrong standing.
                    if not play.keeps(vow):
                        self.assertTrue(any(is_wrong(program, cut, standing, vow) for standing in found))
        self.assertGreater(many, 200)

    def test_moves_are_made_by_plays(self):
        """For each row of moves from the first standing on there is a play of one world that goes so."""
        for name in ("small", "branch", "twice", "pointed", "hollow"):
            program = samples()[name]
            for cut in all_closed(program):
                self.follow(program, cut, [first_standing(program, cut)], [], 8)

    def follow(self, program, cut, so_far, answered, left):
        steps = moves_from(program, cut, so_far[-1]) if left else []
        if not steps:
            self.play(program, cut, so_far, answered)
        for answers, after in steps:
            self.follow(program, cut, so_far + [after], answered + [answers], left - 1)

    def play(self, program, cut, so_far, answered):
        """A play with these answers, found by runs to which each yes is added as soon as it is asked."""
        yes = []
        for side, told in ((0, program), (1, cut_program(program, cut))):
            found = []
            for number, answer in enumerate([answers[side] for answers in answered if answers[side] is not None]):
                run = Run(told, found)
                run.go()
                if answer:
                    found.append(run.asked()[number][:2])
            yes.append(found)
        self.assertEqual(through(Play(program, cut, *yes))[:len(so_far)], so_far)

    def test_no_play(self):
        play = Play(small(), [], [], [])
        for value in [*OTHERS, 1, [], (), small(), ([], []), play.yes_lists(), Play, Run(small())]:
            self.raised(InvalidPlay, {"value": value}, through, value)


class Errors(Case):
    actions = ((first_standing, 0), (is_standing, 1), (moves_from, 1), (is_wrong, 2))

    def test_program_and_labels_first(self):
        for action, many in self.actions:
            more = [None] * many
            for value in [*OTHERS, 1, [], small]:
                self.raised(InvalidProgram, {"value": value}, action, value, 1, *more)
            for value in [*OTHERS, 1, "s"]:
                self.raised(InvalidLabels, {"position": None}, action, small(), value, *more)
            for value in [*OTHERS, 1, "z", ["l"], "w"]:
                self.raised(InvalidLabels, {"position": 1}, action, small(), ["w", value], *more)

    def test_not_closed(self):
        for action, many in self.actions[:3]:
            self.raised(NotClosed, {"label": "s"}, action, small(), ["l"], *[None] * many)
            self.raised(NotClosed, {"label": "s"}, action, small(), ("w", "l"), *[(1, 0, (), (), (0, 1, 0, 1))] * many)
        self.raised(NotClosed, {"label": "s"}, is_wrong, small(), ["l"], None, "ends")

    def test_vow(self):
        right = (1, 0, (), (), (0, 1, 0, 1))
        for value in [*OTHERS, 0, 1, "show", "Ends", "no  more", ["shows"], ("shows",), VOWS]:
            self.raised(InvalidVow, {"value": value}, is_wrong, small(), ["s"], right, value)
            # That the cut is not closed, and so that this is no standing of it, comes behind the vow.
            self.raised(InvalidVow, {"value": value}, is_wrong, small(), ["l"], right, value)
            self.raised(InvalidVow, {"value": value}, is_wrong, small(), ["s"], None, value)

    def test_parameters_by_name(self):
        right = (1, 0, (), (), (0, 1, 0, 1))
        self.assertEqual(moves_from(program=small(), labels=("s",), standing=right), moves_from(small(), ["s"], right))
        self.assertIs(is_wrong(program=small(), labels=("s",), standing=right, vow="ends"), False)
        self.assertIs(is_standing(program=small(), labels=("s",), value=right), True)
        self.assertEqual(first_standing(program=small(), labels=()), first_standing(small(), []))

    def test_the_cut_in_any_sequence(self):
        for labels in itertools.permutations(["l", "s", "w"]):
            self.assertEqual(first_standing(small(), labels), (0, 4, (), (), (-1,) * 4))


class NothingChanges(Case):
    def test_what_is_told_can_be_changed(self):
        labels = ["s"]
        standing = first_standing(small(), labels)
        moves_from(small(), labels, standing).clear()
        self.assertEqual(len(moves_from(small(), labels, standing)), 2)
        play = Play(small(), labels, [L1], [L1])
        through(play).clear()
        self.assertEqual(len(through(play)), 6)
        self.assertEqual(labels, ["s"])


if __name__ == "__main__":
    unittest.main()

"""Runs: where they are, what they hold, show and ask, step by step, and how they are taken back."""

import inspect
import unittest

from cutshows import runs
from cutshows.errors import InvalidProgram, InvalidSymbols, InvalidYes, NothingToUndo, RunOver, UnknownBox
from cutshows.points import points
from cutshows.programs import Program
from cutshows.runs import Run, shown_by
from cutshows.symbols import Symbols
from tests.common import OTHERS, Case, Maker, samples, small
from tests.plainly import Doing

SHOW = ("show", "x", "a")


def steps(run):
    """The labels and wheres of all points of a run up to its end, with "." behind the label of an end of a pass."""
    listed = points(run.program)
    found = []
    while True:
        kind, label, _ = listed[run.point]
        found.append((label + "." if kind == "pass" else label, run.where))
        if run.is_over:
            return found
        run.move()


def state(run):
    """All that a run tells, but for its symbols."""
    return [run.point, run.where, run.moves, run.is_over, run.contents(), run.reached(), run.shown(), run.asked()]


class Examples(Case):
    def test_word_for_word(self):
        self.word_for_word("""
            >>> from cutshows.programs import Program
            >>> small = Program(["a", "b"], [("loop", "l", ["a"], [("set", "s", "a", ["a"])]), ("show", "w", "b")])
            >>> from cutshows.runs import Run, shown_by
            >>> [shown_by(small, []), Run(small, [("l", (1,))]).go()]
            [[('w', (), 1)], 5]
        """, 4, "Stage 3")


class Interface(Case):
    def test_each_stands_in_its_file_and_class(self):
        for value in (Run, shown_by):
            self.assertEqual(value.__module__, runs.__name__)
        self.assertEqual(Run.__mro__, (Run, object))
        for name in ("program", "symbols", "point", "is_over", "where", "moves"):
            self.assertIsInstance(vars(Run)[name], property)
        for name in "__init__ contents reached held shown asked move go undo copy trying tried".split():
            self.assertIn(name, vars(Run))

    def test_parameters(self):
        told = inspect.signature(Run).parameters
        self.assertEqual(list(told), ["program", "yes", "symbols"])
        self.assertEqual([told["yes"].default, told["symbols"].default], [(), None])
        self.assertEqual(list(inspect.signature(Run.held).parameters), ["self", "operand"])
        self.assertEqual(list(inspect.signature(Run.tried).parameters), ["self", "action"])
        self.assertEqual(list(inspect.signature(shown_by).parameters), ["program", "yes"])

    def test_properties_are_not_assigned(self):
        for name in ("program", "symbols", "point", "is_over", "where", "moves"):
            with self.assertRaises(AttributeError):
                setattr(Run(small()), name, 1)


class Wheres(Case):
    def test_a_loop_and_its_passes(self):
        self.assertEqual(steps(Run(small(), [("l", (1,)), ("l", (2,))])), [
            ("l", (1,)), ("s", (1,)), ("l.", (1,)), ("l", (2,)), ("s", (2,)), ("l.", (2,)), ("l", (3,)), ("w", ()),
            ("", ()),
        ])

    def test_passes_are_counted_anew(self):
        program = Program(["a"], [("loop", "o", [], [("loop", "l", [], [SHOW])])])
        yes = [("o", (1,)), ("o", (2,)), ("l", (1, 1)), ("l", (1, 2)), ("l", (2, 1))]
        self.assertEqual(steps(Run(program, yes)), [
            ("o", (1,)), ("l", (1, 1)), ("x", (1, 1)), ("l.", (1, 1)), ("l", (1, 2)), ("x", (1, 2)), ("l.", (1, 2)),
            ("l", (1, 3)),
            ("o.", (1,)), ("o", (2,)), ("l", (2, 1)), ("x", (2, 1)), ("l.", (2, 1)), ("l", (2, 2)), ("o.", (2,)),
            ("o", (3,)), ("", ()),
        ])

    def test_calls_in_loops_and_loops_in_calls(self):
        program = Program(["a"], [("loop", "l", [], [("call", "c", "p")]), ("call", "d", "p")],
                          parts={"p": [("loop", "m", [], [("call", "e", "q")])], "q": [SHOW]})
        yes = [("l", (1,)), ("l", (2,)), ("m", (2, "c", 1)), ("m", ("d", 1))]
        self.assertEqual(steps(Run(program, yes)), [
            ("l", (1,)), ("c", (1,)), ("m", (1, "c", 1)), ("l.", (1,)), ("l", (2,)), ("c", (2,)), ("m", (2, "c", 1)),
            ("e", (2, "c", 1)), ("x", (2, "c", 1, "e")), ("m.", (2, "c", 1)), ("m", (2, "c", 2)), ("l.", (2,)),
            ("l", (3,)),
            ("d", ()), ("m", ("d", 1)), ("e", ("d", 1)), ("x", ("d", 1, "e")), ("m.", ("d", 1)), ("m", ("d", 2)),
            ("", ()),
        ])

    def test_jumps(self):
        program = Program(["a"], [
            ("loop", "o", [], [("loop", "l", [], [("if", "i", [], [("next", "n")], []), ("leave", "v")]), SHOW]),
            ("stop", "h"),
        ])
        yes = [("o", (1,)), ("l", (1, 1)), ("i", (1, 1)), ("l", (1, 2))]
        self.assertEqual(steps(Run(program, yes)), [
            ("o", (1,)), ("l", (1, 1)), ("i", (1, 1)), ("n", (1, 1)), ("l.", (1, 1)), ("l", (1, 2)), ("i", (1, 2)),
            ("v", (1, 2)),
            ("x", (1,)), ("o.", (1,)), ("o", (2,)), ("h", ()), ("", ()),
        ])

    def test_two_loops_in_sequence_in_a_loop(self):
        program = Program(["a"], [("loop", "o", [], [("loop", "l", [], []), ("loop", "m", [], [])])])
        yes = [("o", (1,)), ("l", (1, 1)), ("l", (1, 2)), ("m", (1, 1))]
        self.assertEqual(steps(Run(program, yes)), [
            ("o", (1,)), ("l", (1, 1)), ("l.", (1, 1)), ("l", (1, 2)), ("l.", (1, 2)), ("l", (1, 3)), ("m", (1, 1)),
            ("m.", (1, 1)),
            ("m", (1, 2)), ("o.", (1,)), ("o", (2,)), ("", ()),
        ])

    def test_ifs_tell_nothing(self):
        program = Program(["a"], [("if", "i", [], [("if", "j", [], [], [SHOW])], [])])
        self.assertEqual(steps(Run(program, [("i", ())])), [("i", ()), ("j", ()), ("x", ()), ("", ())])

    def test_stop_in_a_part_in_a_loop(self):
        program = Program(["a"], [("loop", "l", [], [("call", "c", "q")]), SHOW], parts={"q": [("stop", "h")]})
        self.assertEqual(steps(Run(program, [("l", (1,))])), [("l", (1,)), ("c", (1,)), ("h", (1, "c")), ("", ())])

    def test_the_first_point(self):
        self.assertEqual(state(Run(Program(["a"])))[:4], [0, (), 0, True])
        self.assertEqual(state(Run(small()))[:4], [0, (1,), 0, False])
        self.assertEqual(state(Run(Program(["a"], [SHOW])))[:4], [0, (), 0, False])


class Contents(Case):
    def test_set_copy_and_point(self):
        run = Run(samples()["pointed"])
        self.assertEqual(run.contents(), {"a": 0, "b": 1, "c": 2})
        self.assertEqual(run.reached(), {"p": "a", "q": "c"})
        run.move()
        self.assertEqual(run.reached(), {"p": "b", "q": "c"})
        run.move()
        # The set reads what q reaches and a, and writes what p reaches now.
        self.assertEqual(run.contents(), {"a": 0, "b": 3, "c": 2})
        self.assertEqual(run.symbols.symbol(3), ("s", (), (2, 0)))
        run.move()
        self.assertEqual(run.reached(), {"p": "b", "q": "b"})
        run.move()
        self.assertEqual(run.contents(), {"a": 0, "b": 2, "c": 2})
        self.assertEqual([run.held(operand) for operand in "abcpq"], [0, 2, 2, 2, 2])
        run.go()
        self.assertEqual(run.shown(), [("w", (), 2), ("x", (), 2)])

    def test_keys_are_sorted(self):
        program = Program(["c", "a", "b"], [("copy", "x", "q", "a")], pointers={"q": "b", "p": "c"})
        run = Run(program)
        self.assertEqual(list(run.contents().items()), [("a", 1), ("b", 2), ("c", 0)])
        self.assertEqual(list(run.reached().items()), [("p", "c"), ("q", "b")])
        run.move()
        self.assertEqual(list(run.contents().items()), [("a", 1), ("b", 1), ("c", 0)])
        self.assertEqual([run.held("c"), run.held("p"), run.held("q")], [0, 0, 1])

    def test_a_copy_stays_when_the_source_changes(self):
        program = Program(["a", "b"], [("copy", "x", "b", "a"), ("set", "s", "a", ["a", "b", "a"]),
            ("copy", "y", "a", "a")])
        run = Run(program)
        run.go()
        self.assertEqual(run.contents(), {"a": 2, "b": 0})
        self.assertEqual(run.symbols.symbol(2), ("s", (), (0, 0, 0)))

    def test_a_pointer_reaches_what_another_reached_then(self):
        program = Program(["a", "b"], [("point", "x", "p", "q"), ("point", "y", "q", "a"), ("point", "z", "q", "q")],
                          pointers={"p": "a", "q": "b"})
        run = Run(program)
        run.go()
        self.assertEqual(run.reached(), {"p": "b", "q": "a"})

    def test_held_of_no_operand(self):
        run = Run(samples()["pointed"])
        for value in [*OTHERS, 0, 1, "d", "m", "s", ["a"], ("a",), []]:
            self.raised(UnknownBox, {"value": value}, run.held, value)

    def test_shown_and_asked(self):
        program = Program(["a", "b"], [
            ("loop", "l", ["b", "a"], [("set", "s", "a", ["a"]), ("show", "x", "a")]), ("if", "i", [], [], []),
            ("show", "y", "b"),
        ])
        run = Run(program, [("l", (1,)), ("l", (2,))])
        self.assertEqual([run.shown(), run.asked()], [[], []])
        run.move()
        self.assertEqual([run.shown(), run.asked()], [[], [("l", (1,), (1, 0), True)]])
        self.assertEqual(run.go(), 10)
        self.assertEqual(run.shown(), [("x", (1,), 2), ("x", (2,), 3), ("y", (), 1)])
        self.assertEqual(run.asked(), [
            ("l", (1,), (1, 0), True), ("l", (2,), (1, 2), True), ("l", (3,), (1, 3), False), ("i", (), (), False),
        ])
        self.assertEqual([told[3].__class__ for told in run.asked()], [bool] * 4)

    def test_a_set_that_reads_nothing(self):
        program = Program(["a"], [("loop", "l", [], [("set", "s", "a", []), ("show", "x", "a")])])
        self.assertEqual(shown_by(program, [("l", (1,)), ("l", (2,))]), [("x", (1,), 1), ("x", (2,), 2)])


class AllPrograms(Case):
    def test_against_a_second_look(self):
        maker = Maker(4)
        for program in [*samples().values(), *maker.programs(150)]:
            for yes in ([], maker.yes(program), maker.yes(program, 12)):
                self.compare(program, yes)

    def compare(self, program, yes):
        run = Run(program, yes)
        doing = Doing(program, yes)
        numbers = doing.numbers()
        listed = points(program)
        for moves, (point, where, values, aims) in enumerate(doing.visits):
            self.assertEqual([listed[run.point], run.where, run.moves], [point, where, moves])
            self.assertEqual(run.contents(), {box: numbers[value] for box, value in values.items()})
            self.assertEqual(run.reached(), aims)
            self.assertEqual(run.is_over, moves + 1 == len(doing.visits))
            if not run.is_over:
                self.assertIsNone(run.move())
        self.assertEqual(len(run.symbols), len(numbers))
        self.assertEqual(run.shown(), [(label, where, numbers[value]) for label, where, value in doing.shown])
        self.assertEqual(run.asked(), [
            (label, where, tuple(numbers[value] for value in reads), answer) for label, where, reads,
            answer in doing.asked
        ])
        self.assertEqual(shown_by(program, yes), run.shown())
        self.assertEqual(Run(program, yes).go(), len(doing.visits) - 1)


class YesLists(Case):
    def test_twice_and_never_asked(self):
        yes = [("l", (1,)), ("l", ()), ("l", ("l",)), ("l", (5, "c", 7)), ("l", (1,)), ("l", (999999999,)), ("l", (4,))]
        self.assertEqual(Run(small(), yes).go(), 5)
        self.assertEqual(Run(small(), tuple(yes)).go(), 5)
        self.assertEqual(Run(program=small(), yes=yes, symbols=None).go(), 5)
        self.assertEqual(Run(small()).go(), 2)
        self.assertEqual(Run(small(), [("l", (2,))]).go(), 2)

    def test_no_list(self):
        for value in [*OTHERS, 1, "l", object()]:
            self.raised(InvalidYes, {"position": None}, Run, small(), value)
            self.raised(InvalidYes, {"position": None}, shown_by, small(), value)

    def test_the_first_wrong_element(self):
        right = ("l", (1,))
        wrong = [
            *OTHERS, 1, "l", [], (), ["l", (1,)], ("l",), ("l", (1,), 1), ("l", [1]), ("l", None), ("l", 1), ("l", "c"),
            ("l", (0,)), ("l", (-1,)), ("l", (True,)), ("l", (None,)), ("l", ("C",)), ("l", ("",)), ("l", (1, 0)),
            ("l", ((1,),)),
            ("l", ([],)), ("s", (1,)), ("w", ()), ("x", ()), ("", ()), (None, ()), (1, (1,)), (["l"], ()), (("l",), ()),
            ((1,), "l"),
        ]
        for value in wrong:
            for position in range(4):
                yes = [right] * position + [value, value, right]
                self.raised(InvalidYes, {"position": position}, Run, small(), yes)
                self.raised(InvalidYes, {"position": position}, Run, small(), tuple(yes))
                self.raised(InvalidYes, {"position": position}, shown_by, small(), yes)
        for value in OTHERS:
            for yes in ([(value, (1,))], [("l", value)], [("l", (value,))], [("l", (1,), value)]):
                self.raised(InvalidYes, {"position": 0}, Run, small(), yes)

    def test_labels_of_tests_alone(self):
        program = samples()["jumps"]
        for label in program.labels():
            if label in program.tests():
                Run(program, [(label, ())])
            else:
                self.raised(InvalidYes, {"position": 0}, Run, program, [(label, ())])

    def test_what_was_passed_can_be_changed(self):
        yes = [("l", (1,))]
        run = Run(small(), yes)
        yes.append(("l", (2,)))
        self.assertEqual(run.go(), 5)
        run = Run(small(), yes)
        yes.clear()
        self.assertEqual(run.go(), 8)


class PassedSymbols(Case):
    def test_they_are_used_and_not_copied(self):
        told = Symbols(2)
        first = told.number("z", (), [])
        run = Run(small(), [("l", (1,))], told)
        self.assertIs(run.symbols, told)
        self.assertEqual([run.symbols, first], [told, 2])
        run.go()
        self.assertEqual([len(told), told.symbol(3), run.contents()["a"]], [4, ("s", (1,), (0,)), 3])
        again = Run(small(), [("l", (1,)), ("l", (2,))], told)
        again.go()
        self.assertEqual([len(told), again.contents()["a"]], [5, 4])

    def test_results_that_are_known_already(self):
        told = Symbols(2)
        told.number("z", (), [])
        told.number("s", (1,), [0])
        run = Run(small(), [("l", (1,))], told)
        run.go()
        self.assertEqual([len(told), run.contents()["a"]], [4, 3])

    def test_new_ones_if_none_are_passed(self):
        one, other = Run(small()), Run(small())
        self.assertIsNot(one.symbols, other.symbols)
        self.assertEqual([one.symbols.many, len(one.symbols)], [2, 2])

    def test_other_values(self):
        for value in [value for value in OTHERS if value is not None] + [0, 2, [], (), Symbols, Symbols(1), Symbols(3),
            Run(small())]:
            self.raised(InvalidSymbols, {"value": value}, Run, small(), [], value)

    def test_which_error_comes_first(self):
        for value in [*OTHERS, 1, small]:
            self.raised(InvalidProgram, {"value": value}, Run, value, 1, 1)
            self.raised(InvalidProgram, {"value": value}, shown_by, value, 1)
        self.raised(InvalidYes, {"position": None}, Run, small(), 1, 1)
        self.raised(InvalidYes, {"position": 0}, Run, small(), [1], 1)


class Moving(Case):
    def test_program(self):
        program = small()
        self.assertIs(Run(program).program, program)

    def test_move_at_the_end(self):
        run = Run(small())
        self.assertEqual([run.go(), run.go(), run.moves], [2, 0, 2])
        before = state(run)
        self.raised(RunOver, {}, run.move)
        self.raised(RunOver, {}, Run(Program(["a"])).move)
        self.assertEqual(state(run), before)
        self.assertEqual(Run(Program(["a"])).go(), 0)

    def test_go_from_the_middle(self):
        run = Run(small(), [("l", (1,))])
        run.move()
        run.move()
        self.assertEqual([run.moves, run.go(), run.moves, run.is_over], [2, 3, 5, True])

    def test_undo_up_to_the_beginning_and_once_more(self):
        maker = Maker(5)
        for program in [*samples().values(), *maker.programs(30)]:
            run = Run(program, maker.yes(program))
            before = [state(run)]
            while not run.is_over:
                run.move()
                before.append(state(run))
            many = len(run.symbols)
            while len(before) > 1:
                self.assertEqual(state(run), before.pop())
                self.assertIsNone(run.undo())
            self.assertEqual(state(run), before[0])
            self.raised(NothingToUndo, {}, run.undo)
            self.assertEqual(state(run), before[0])
            # The symbols keep their numbers, so all is the same again.
            self.assertEqual(len(run.symbols), many)
            run.go()
            self.assertEqual(len(run.symbols), many)

    def test_undo_and_move_by_turns(self):
        run = Run(small(), [("l", (1,)), ("l", (2,))])
        other = Run(small(), [("l", (1,)), ("l", (2,))])
        while not run.is_over:
            run.move()
            after = state(run)
            run.undo()
            self.assertEqual(state(run), state(other))
            run.move()
            other.move()
            self.assertEqual(state(run), after)
            self.assertEqual(state(other), after)
        self.assertEqual(len(run.symbols), 4)

    def test_undo_at_the_end(self):
        run = Run(small())
        run.go()
        run.undo()
        self.assertEqual([run.point, run.is_over, run.shown()], [3, False, []])

    def test_copies_go_on_by_themselves(self):
        run = Run(small(), [("l", (1,))])
        run.move()
        other = run.copy()
        self.assertIs(other.__class__, Run)
        self.assertEqual(state(other), state(run))
        self.assertIs(other.symbols, run.symbols)
        self.assertIs(other.program, run.program)
        before = state(run)
        self.assertEqual(other.go(), 4)
        self.assertEqual(state(run), before)
        self.assertEqual(len(run.symbols), 3)
        run.undo()
        self.assertEqual([run.moves, other.moves], [0, 5])
        for _ in range(5):
            other.undo()
        self.raised(NothingToUndo, {}, other.undo)
        self.assertEqual(state(other), state(run))
        self.assertEqual([run.go(), other.moves], [5, 0])

    def test_a_copy_has_the_same_answers(self):
        run = Run(samples()["jumps"], [("l", (1,)), ("l", (2,)), ("j", (1,)), ("k", (1, "c"))])
        other = run.copy()
        self.assertEqual(other.go(), run.copy().copy().go())
        run.go()
        self.assertEqual(state(other), state(run))
        self.assertEqual([told[3] for told in other.asked()].count(True), 4)


class Trying(Case):
    def setUp(self):
        self.run_ = Run(small(), [("l", (1,)), ("l", (2,))])
        self.run_.move()
        self.before = state(self.run_)

    def test_left_by_its_end(self):
        with self.run_.trying() as run:
            self.assertIs(run, self.run_)
            self.assertEqual(state(run), self.before)
            run.go()
            self.assertTrue(run.is_over)
        self.assertEqual(state(self.run_), self.before)
        self.assertEqual(len(self.run_.symbols), 4)
        self.assertEqual(self.run_.go(), 7)

    def test_left_by_an_error(self):
        error = KeyError("told")
        with self.assertRaises(KeyError) as caught:
            with self.run_.trying() as run:
                run.go()
                raise error
        self.assertIs(caught.exception, error)
        self.assertEqual(state(self.run_), self.before)
        with self.assertRaises(RunOver):
            with self.run_.trying() as run:
                run.go()
                run.move()
        self.assertEqual(state(self.run_), self.before)

    def test_left_by_other_ways(self):
        def returns():
            with self.run_.trying() as run:
                return run.go()
        self.assertEqual(returns(), 7)
        self.assertEqual(state(self.run_), self.before)
        for _ in range(2):
            with self.run_.trying() as run:
                run.move()
                continue
        for _ in range(2):
            with self.run_.trying() as run:
                run.move()
                break
        self.assertEqual(state(self.run_), self.before)

    def test_what_was_undone_in_it_comes_back(self):
        with self.run_.trying() as run:
            run.undo()
            self.raised(NothingToUndo, {}, run.undo)
            run.move()
            run.move()
            run.undo()
            run.undo()
            self.assertEqual(run.moves, 0)
        self.assertEqual(state(self.run_), self.before)
        self.run_.undo()
        self.assertEqual(self.run_.moves, 0)

    def test_its_beginning_is_that_of_the_block(self):
        manager = self.run_.trying()
        self.run_.move()
        after = state(self.run_)
        with manager:
            self.run_.go()
        self.assertEqual(state(self.run_), after)

    def test_one_in_another(self):
        with self.run_.trying() as run:
            run.move()
            between = state(run)
            with run.trying() as same:
                self.assertIs(same, run)
                same.go()
            self.assertEqual(state(run), between)
            run.move()
        self.assertEqual(state(self.run_), self.before)

    def test_the_same_one_twice(self):
        manager = self.run_.trying()
        for _ in range(2):
            with manager as run:
                run.move()
                between = state(run)
                with manager:
                    run.go()
                self.assertEqual(state(run), between)
            self.assertEqual(state(self.run_), self.before)

    def test_a_copy_stays_where_it_went(self):
        with self.run_.trying() as run:
            other = run.copy()
            other.move()
            run.go()
        self.assertEqual([self.run_.moves, other.moves], [1, 2])

    def test_tried(self):
        told = []

        def action(run):
            told.append(run)
            return [run.go(), run.shown()]
        self.assertEqual(self.run_.tried(action), [7, [("w", (), 1)]])
        self.assertEqual([run is self.run_ for run in told], [True])
        self.assertEqual(state(self.run_), self.before)
        self.assertIsNone(self.run_.tried(Run.move))
        self.assertEqual(self.run_.tried(action=lambda run: run.moves), 1)
        self.assertEqual(state(self.run_), self.before)

    def test_tried_with_an_error(self):
        error = ZeroDivisionError()

        def action(run):
            run.go()
            raise error
        with self.assertRaises(ZeroDivisionError) as caught:
            self.run_.tried(action)
        self.assertIs(caught.exception, error)
        self.assertEqual(state(self.run_), self.before)
        self.raised(NothingToUndo, {}, self.run_.tried, lambda run: [run.undo(), run.undo()])
        self.assertEqual(state(self.run_), self.before)


class NothingChanges(Case):
    def test_what_is_told_can_be_changed(self):
        run = Run(samples()["jumps"], [("l", (1,))])
        run.go()
        before = repr(state(run))
        for told in (run.contents(), run.reached(), run.shown(), run.asked()):
            told.clear()
        run.contents()["a"] = 7
        run.shown().append(1)
        self.assertEqual(repr(state(run)), before)


if __name__ == "__main__":
    unittest.main()

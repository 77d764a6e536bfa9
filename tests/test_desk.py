"""Desks: commands and their answers, what changes and is undone, logs and copies."""

import itertools
import unittest
from unittest import mock

from cutshows import desk, tables
from cutshows.cuts import closed_of
from cutshows.desk import Desk
from cutshows.errors import (
    CommandFailed, InvalidCommand, InvalidProgram, NothingToUndo, TooMany, UnknownLabel, UnknownName,
)
from cutshows.plain import pared
from cutshows.programs import Program
from cutshows.tables import is_right, kept_vows
from tests.common import OTHERS, Case, Maker, great, samples, small

COMMANDS = ("take two", "take one", "leave s", "leave l", "leave x", "cut", "vows", "keep all", "pare l s w", "pare x y",
            "pare s", "undo", "take three", "leave q", "nothing")


def programs():
    return {"two": samples()["twice"], "one": small()}


def state(told):
    return told.name, told.left_out, told.log(), told.copy().do("cut")


class Examples(Case):
    def test_word_for_word(self):
        self.word_for_word("""
            >>> from cutshows.programs import Program
            >>> small = Program(["a", "b"], [("loop", "l", ["a"], [("set", "s", "a", ["a"])]), ("show", "w", "b")])
            >>> from cutshows.desk import Desk
            >>> Desk({"one": small}).do_all("leave l", "cut", "vows")
            ['done', 'l s', 'shows, ends']
        """, 4, "Stage 9")


class Interface(Case):
    def test_all_stands_in_its_class(self):
        self.assertEqual(Desk.__module__, desk.__name__)
        self.assertEqual(Desk.__mro__, (Desk, object))
        for name in "__init__ do do_all log copy".split():
            self.assertIn(name, vars(Desk))
        for name in ("name", "left_out"):
            self.assertIsInstance(vars(Desk)[name], property)
        self.assertIsInstance(vars(Desk)["from_log"], classmethod)

    def test_parameters_by_name(self):
        told = Desk(programs=programs())
        self.assertEqual(told.do(command="leave s"), "done")
        self.assertEqual(Desk.from_log(programs=programs(), commands=("leave s",)).left_out, ["s"])

    def test_properties_are_only_read(self):
        for name in ("name", "left_out"):
            self.assertRaises(AttributeError, setattr, Desk(programs()), name, "two")


class Beginning(Case):
    def test_the_least_name_is_in_hand(self):
        told = Desk(programs())
        self.assertEqual(state(told), ("one", [], [], "none"))
        for names in itertools.permutations(["b", "a", "c"]):
            self.assertEqual(Desk({name: small() for name in names}).name, "a")

    def test_no_dict_of_programs(self):
        # One of these is a dict whose only value is no program.
        others = [value for value in OTHERS if value.__class__ is not dict or not value]
        for value in [*others, 0, "one", [], (), [small()], small(), [("one", small())], {"One": small()}, {"": small()},
                      {"one": small(), 1: small()}, {None: small()}, {"one": small(), ("two",): small()},
                      {"one": None, "TWO": small()}, {"abcdefghi": small()}, {True: small()}]:
            self.raised(InvalidProgram, {"value": value}, Desk, value)
            self.raised(InvalidProgram, {"value": value}, Desk.from_log, value, ["nothing"])

    def test_no_programs(self):
        for value in [*OTHERS, 0, [], "one", small]:
            self.raised(InvalidProgram, {"value": value}, Desk, {"one": value})
            self.raised(InvalidProgram, {"value": value}, Desk, {"one": small(), "two": value})
            self.raised(InvalidProgram, {"value": value}, Desk, {"two": 5, "one": value})
            self.raised(InvalidProgram, {"value": value}, Desk.from_log, {"one": value}, ["nothing"])

    def test_the_dict_is_copied(self):
        told = programs()
        kept = Desk(told)
        told["one"] = Program(["z"])
        del told["two"]
        told["three"] = small()
        self.assertEqual(kept.do_all("leave w", "cut", "take two", "leave x"), ["done", "w", "done", "done"])
        self.raised(UnknownName, {"value": "three"}, kept.do, "take three")


class Commands(Case):
    def setUp(self):
        self.desk = Desk(programs())

    def answers(self, *told):
        """Pairs of commands and their answers."""
        for command, answer in told:
            self.assertEqual(self.desk.do(command), answer)

    def test_take(self):
        self.answers(("take two", "done"))
        self.assertEqual(state(self.desk), ("two", [], ["take two"], "none"))
        self.answers(("take two", "done"), ("take one", "done"))
        self.assertEqual(state(self.desk), ("one", [], ["take two", "take two", "take one"], "none"))

    def test_leave(self):
        self.answers(("leave s", "done"), ("cut", "s"), ("leave l", "done"), ("cut", "l s"), ("leave w", "done"),
                     ("cut", "l s w"))
        self.assertEqual(self.desk.left_out, ["l", "s", "w"])

    def test_leave_what_must_go_with_it(self):
        self.answers(("leave l", "done"), ("cut", "l s"))
        told = Desk({"a": samples()["calls"]})
        self.assertEqual(told.do_all("leave d", "cut", "leave c", "cut", "leave e", "cut"),
                         ["done", "d", "done", "c d f i m s t y z", "done", "c d e f i m s t y z"])

    def test_leave_what_is_left_out_already(self):
        self.answers(("leave l", "done"), ("leave s", "done"), ("leave l", "done"), ("cut", "l s"))
        self.assertEqual(self.desk.log(), ["leave l", "leave s", "leave l"])

    def test_cut(self):
        self.answers(("cut", "none"), ("leave w", "done"), ("cut", "w"), ("leave s", "done"), ("cut", "s w"))

    def test_vows(self):
        self.answers(("vows", "shows, no more, ends"), ("leave s", "done"), ("vows", "none"), ("leave l", "done"),
                     ("vows", "shows, ends"), ("leave w", "done"), ("vows", "no more, ends"))
        self.answers(("take two", "done"), ("leave x", "done"), ("vows", "shows, no more, ends"), ("leave y", "done"),
                     ("vows", "ends"))

    def test_keep_all(self):
        self.answers(("leave l", "done"), ("keep all", "done"), ("cut", "none"), ("keep all", "done"))
        self.assertEqual(self.desk.log(), ["leave l", "keep all", "keep all"])
        # Of the program in hand alone.
        self.answers(("leave w", "done"), ("take two", "done"), ("leave x", "done"), ("keep all", "done"),
                     ("cut", "none"), ("take one", "done"), ("cut", "w"))

    def test_pare(self):
        self.answers(("pare l", "done"), ("cut", "l s"))
        self.answers(("keep all", "done"), ("pare s", "done"), ("cut", "none"), ("pare w s l", "done"), ("cut", "l s"))
        self.answers(("take two", "done"), ("pare y x z", "done"), ("cut", "y"), ("pare x", "done"), ("cut", "y"))

    def test_pare_labels_that_stand_there_more_than_once(self):
        self.answers(("pare l l s l w w", "done"), ("cut", "l s"))
        program = Program(["a", "b"], [("set", "s", "a", ["b"]), ("loop", "l", ["a"], []), ("show", "w", "b")])
        self.assertEqual(Desk({"a": program}).do_all("pare s l", "cut", "keep all", "pare s l s", "cut"),
                         ["done", "l", "done", "done", "l s"])

    def test_pare_from_what_is_left_out(self):
        # Without the row s alone the cut is not right, but with the loop it is.
        self.answers(("leave s", "done"), ("pare l", "done"), ("cut", "l s"))
        # What is left out stays so, even if nothing can be right any more.
        self.answers(("keep all", "done"), ("leave w", "done"), ("pare s l", "done"), ("cut", "w"))
        self.answers(("take two", "done"), ("leave x", "done"), ("pare y z x", "done"), ("cut", "x"))

    def test_undo(self):
        done = ["leave s", "take two", "pare x", "keep all", "leave y", "take one", "keep all", "take one", "leave w"]
        states = [state(self.desk)]
        for command in done:
            self.answers((command, "done"))
            states.append(state(self.desk))
        for before in states[-2::-1]:
            self.answers(("undo", "done"))
            self.assertEqual(state(self.desk), before)
        self.raised(NothingToUndo, {}, self.desk.do, "undo")
        self.assertEqual(state(self.desk), states[0])
        self.assertEqual(self.desk.do_all(*done), ["done"] * len(done))
        self.assertEqual(state(self.desk), states[-1])

    def test_what_is_undone_cannot_be_undone(self):
        self.answers(("leave s", "done"), ("leave w", "done"), ("undo", "done"), ("leave l", "done"), ("cut", "l s"),
                     ("undo", "done"), ("cut", "s"), ("undo", "done"), ("cut", "none"))
        self.raised(NothingToUndo, {}, self.desk.do, "undo")

    def test_cut_and_vows_are_not_undone(self):
        self.answers(("leave w", "done"), ("cut", "w"), ("vows", "no more, ends"))
        self.assertEqual(self.desk.log(), ["leave w"])
        self.answers(("undo", "done"), ("cut", "none"))
        self.raised(NothingToUndo, {}, self.desk.do, "undo")

    def test_each_program_keeps_its_own_cut(self):
        self.answers(("leave l", "done"), ("take two", "done"), ("cut", "none"), ("leave z", "done"), ("take one", "done"),
                     ("cut", "l s"), ("take two", "done"), ("cut", "z"), ("undo", "done"), ("undo", "done"),
                     ("cut", "z"), ("undo", "done"), ("cut", "none"), ("take one", "done"), ("cut", "l s"))

    def test_against_the_functions(self):
        random = Maker(91).random
        for program in Maker(92).programs(60):
            if len(program) == 0 or len(program) > 8:
                continue
            told, cut = Desk({"a": program}), []
            for _ in range(6):
                labels = [random.choice(program.labels()) for _ in range(random.randrange(1, 4))]
                if random.random() < 0.5:
                    told.do("leave " + labels[0])
                    cut = closed_of(program, sorted({*cut, labels[0]}))
                else:
                    told.do("pare " + " ".join(labels))
                    for label in labels:
                        more = closed_of(program, sorted({*cut, label}))
                        cut = more if label not in cut and is_right(program, more, ["shows", "ends"]) else cut
                self.assertEqual(told.left_out, cut)
                self.assertEqual(told.do("cut"), " ".join(cut) or "none")
                self.assertEqual(told.do("vows"), ", ".join(kept_vows(program, cut)) or "none")
            told.do_all("keep all", "pare " + " ".join(program.labels()))
            self.assertEqual(told.left_out, pared(program, ["shows", "ends"], program.labels()))


class WrongCommands(Case):
    def wrong(self, value):
        told = Desk(programs())
        told.do_all("leave s", "take two", "leave x")
        before = state(told)
        self.raised(InvalidCommand, {"value": value}, told.do, value)
        self.assertEqual(state(told), before)

    def test_words(self):
        for command in ("", " ", "take", "leave", "pare", "keep", "all", "none", "done", "nothing", "take one two",
                        "leave x y", "cut x", "vows x", "vow", "undo undo", "undo all", "keep all x", "keep none",
                        "keep x", "all keep", "takeone", "keepall", "leavex", "cuts", "pared x", "redo", "x leave", "one",
                        "do cut", "pare, x", "take one, two", "cut;", "leave all all"):
            self.wrong(command)

    def test_blanks(self):
        for command in ("take two", "leave x", "cut", "vows", "keep all", "pare x", "pare x y z", "undo"):
            for wrong in (" " + command, command + " ", command.replace(" ", "  "), "\n" + command, command + "\n",
                          command.replace(" ", "\n"), command.replace(" ", "")):
                if wrong != command:
                    self.wrong(wrong)

    def test_great_letters(self):
        for command in ("take two", "leave x", "cut", "vows", "keep all", "pare x y", "undo"):
            for place, letter in enumerate(command):
                if letter != " ":
                    self.wrong(command[:place] + letter.upper() + command[place + 1:])

    def test_names_that_are_none(self):
        for name in ("x1", "abcdefghi", "x,", "x-y", "1", "_", "x.", "."):
            for word in ("take", "leave", "pare", "pare x", "pare x y"):
                self.wrong(f"{word} {name}")
            self.wrong(f"pare {name} x")

    def test_values_of_other_kinds(self):
        for value in [*OTHERS, 0, [], (), ["cut"], ("cut",), b"cut", small(), {"cut": 1}, ["take", "one"], Desk]:
            self.wrong(value)

    def test_names_that_are_not_there(self):
        told = Desk(programs())
        for name in ("three", "x", "all", "abcdefgh"):
            self.raised(UnknownName, {"value": name}, told.do, "take " + name)
            self.raised(UnknownLabel, {"value": name}, told.do, "leave " + name)
            self.raised(UnknownLabel, {"value": name}, told.do, "pare " + name)
            self.raised(UnknownLabel, {"value": name}, told.do, f"pare l {name} other")
            self.raised(UnknownLabel, {"value": name}, told.do, f"pare {name} l l")
        # Labels of another program than that in hand.
        self.raised(UnknownLabel, {"value": "x"}, told.do, "leave x")
        told.do("take two")
        self.raised(UnknownLabel, {"value": "l"}, told.do, "leave l")
        # That it is no command comes first.
        self.raised(InvalidCommand, {"value": "pare q X"}, told.do, "pare q X")
        self.assertEqual(state(told), ("two", [], ["take two"], "none"))


class Limits(Case):
    def setUp(self):
        self.desk = Desk({"great": great()})

    def test_vows(self):
        self.desk.do("leave f")
        before = state(self.desk)
        self.too_many("standings", 5000, self.desk.do, "vows")
        self.assertEqual(state(self.desk), before)
        self.assertEqual(self.desk.do_all("leave e", "vows"), ["done", "shows, no more"])

    def test_pare(self):
        self.desk.do_all("leave b", "keep all")
        before = state(self.desk)
        for command in ("pare f", "pare f e", "pare f f"):
            self.too_many("standings", 5000, self.desk.do, command)
            self.assertEqual(state(self.desk), before)
        # An unknown label comes ahead of it, wherever it stands.
        self.raised(UnknownLabel, {"value": "zz"}, self.desk.do, "pare f zz")
        # Beginning with a cut that is not too great.
        self.assertEqual(self.desk.do_all("leave e", "pare f", "cut"), ["done", "done", "e"])

    def test_what_was_tried_ahead_of_it_is_not_left_out(self):
        self.assertEqual(Desk({"one": small()}).do_all("pare l", "cut"), ["done", "l s"])
        told = Desk({"one": small()})
        with mock.patch.object(tables, "MOST_STANDINGS", 7):
            for command in ("pare w l", "pare l w"):
                self.too_many("standings", 7, told.do, command)
                self.assertEqual(state(told), ("one", [], [], "none"))

    def test_do_all(self):
        before = state(self.desk)
        self.raised(CommandFailed, {"position": 1}, self.desk.do_all, "leave f", "vows")
        self.assertEqual(state(self.desk), before)


class DoAll(Case):
    def test_answers(self):
        told = Desk(programs())
        found = told.do_all("leave s", "cut", "undo", "cut", "take two", "vows")
        self.assertEqual(found, ["done", "s", "done", "none", "done", "shows, no more, ends"])
        self.assertIs(found.__class__, list)
        self.assertEqual(told.log(), ["take two"])
        self.assertEqual(told.do_all(), [])

    def test_a_wrong_command_at_each_position(self):
        right = ["leave s", "cut", "take two", "pare x", "undo", "leave y", "vows", "keep all", "undo"]
        for wrong, cause in (("nothing", InvalidCommand), (5, InvalidCommand), (None, InvalidCommand),
                             ("take three", UnknownName), ("leave qq", UnknownLabel), ("pare qq", UnknownLabel)):
            for position in range(len(right) + 1):
                told = Desk(programs())
                told.do_all("leave w", "take two", "leave z", "take one")
                before = state(told)
                with self.assertRaises(CommandFailed) as caught:
                    told.do_all(*right[:position], wrong, *right[position:], "nothing")
                self.assertEqual(vars(caught.exception), {"position": position})
                self.assertIs(caught.exception.__cause__.__class__, cause)
                self.assertEqual(state(told), before)
                # What can be undone is as it was, too.
                self.assertEqual(told.do_all("undo", "cut", "undo", "cut", "undo", "undo", "cut"),
                                 ["done", "z", "done", "none", "done", "done", "none"])
                self.raised(NothingToUndo, {}, told.do, "undo")

    def test_too_many_undos(self):
        told = Desk(programs())
        told.do("leave w")
        with self.assertRaises(CommandFailed) as caught:
            told.do_all("leave l", "undo", "undo", "undo", "undo")
        self.assertEqual([caught.exception.position, caught.exception.__cause__.__class__], [3, NothingToUndo])
        self.assertEqual(state(told), ("one", ["w"], ["leave w"], "w"))

    def test_the_cause_has_its_attributes(self):
        for command, attributes in (("take three", {"value": "three"}), ([], {"value": []}), ("leave q", {"value": "q"})):
            with self.assertRaises(CommandFailed) as caught:
                Desk(programs()).do_all(command)
            self.assertEqual(vars(caught.exception.__cause__), attributes)
        with self.assertRaises(CommandFailed) as caught:
            Desk({"a": great()}).do_all("leave f", "vows")
        self.assertIs(caught.exception.__cause__.__class__, TooMany)


class Logs(Case):
    def test_log(self):
        told = Desk(programs())
        told.do_all("leave s", "cut", "take two", "vows", "pare x", "undo", "keep all", "take two")
        self.assertEqual(told.log(), ["leave s", "take two", "keep all", "take two"])
        self.assertIs(told.log().__class__, list)

    def test_a_command_that_raises_an_error(self):
        told = Desk(programs())
        told.do("leave s")
        for command in ("leave q", "take q", "pare q", "nothing", "undo undo", 5):
            self.assertRaises((InvalidCommand, UnknownLabel, UnknownName), told.do, command)
            self.assertEqual(state(told), ("one", ["s"], ["leave s"], "s"))

    def test_from_a_log(self):
        random = Maker(93).random
        for _ in range(60):
            told = Desk(programs())
            for _ in range(8):
                try:
                    told.do(random.choice(COMMANDS))
                except (InvalidCommand, UnknownLabel, UnknownName, NothingToUndo):
                    pass
            for commands in (told.log(), tuple(told.log())):
                other = Desk.from_log(programs(), commands)
                self.assertIs(other.__class__, Desk)
                self.assertEqual(state(other), state(told))
                self.assertEqual(other.do_all("vows", "take one", "cut", "take two", "cut", "vows"),
                                 told.copy().do_all("vows", "take one", "cut", "take two", "cut", "vows"))
            twin = told.copy()
            other = Desk.from_log(programs(), told.log())
            for _ in told.log():
                self.assertEqual([other.do("undo"), state(other)], [twin.do("undo"), state(twin)])

    def test_from_other_commands(self):
        told = Desk.from_log(programs(), ["leave s", "cut", "undo", "vows", "leave w"])
        self.assertEqual(state(told), ("one", ["w"], ["leave w"], "w"))
        self.assertEqual(state(Desk.from_log(programs(), [])), ("one", [], [], "none"))

    def test_from_a_wrong_command(self):
        for wrong, cause in (("nothing", InvalidCommand), (5, InvalidCommand), ("undo", NothingToUndo),
                             ("take q", UnknownName), ("leave x", UnknownLabel)):
            for position in range(3):
                commands = ["cut"] * position + [wrong, "nothing"]
                with self.assertRaises(CommandFailed) as caught:
                    Desk.from_log(programs(), commands)
                self.assertEqual(caught.exception.position, position)
                self.assertIs(caught.exception.__cause__.__class__, cause)

    def test_copy(self):
        told = Desk(programs())
        told.do_all("leave s", "take two")
        twin = told.copy()
        self.assertIs(twin.__class__, Desk)
        self.assertEqual(state(twin), state(told))
        twin.do_all("leave x", "take one", "leave w")
        self.assertEqual(state(told), ("two", [], ["leave s", "take two"], "none"))
        told.do_all("undo", "undo", "leave w")
        self.assertEqual(state(told), ("one", ["w"], ["leave w"], "w"))
        self.assertEqual(state(twin), ("one", ["s", "w"], ["leave s", "take two", "leave x", "take one", "leave w"], "s w"))
        self.assertEqual(twin.do_all(*["undo"] * 5), ["done"] * 5)
        self.assertEqual(state(twin), ("one", [], [], "none"))

    def test_what_is_told_can_be_changed(self):
        told = Desk(programs())
        told.do("leave s")
        told.log().append("leave w")
        told.left_out.append("w")
        self.assertEqual(state(told), ("one", ["s"], ["leave s"], "s"))
        told.do_all("cut", "vows").clear()
        commands = ["leave w"]
        other = Desk.from_log(programs(), commands)
        commands.append("leave s")
        self.assertEqual(other.log(), ["leave w"])


if __name__ == "__main__":
    unittest.main()

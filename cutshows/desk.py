"""A desk: programs and cuts by names, and commands in words."""

from cutshows.basics import is_name
from cutshows.checks import check_label
from cutshows.cuts import closed_of
from cutshows.errors import (
    CommandFailed, CutError, InvalidCommand, InvalidProgram, LimitError, MissingError, NothingToUndo, StateError,
    UnknownName,
)
from cutshows.plain import pared_from
from cutshows.programs import Program
from cutshows.tables import kept_vows

# The wish of the command that pares.
PARED_FOR = ("shows", "ends")
# How many names stand behind the words of a command, at least and at most; None is any number.
COMMANDS = {
    "take": (1, 1),
    "leave": (1, 1),
    "cut": (0, 0),
    "vows": (0, 0),
    "keep all": (0, 0),
    "pare": (1, None),
    "undo": (0, 0),
}


class Desk:
    """Programs by names, one of them in hand, and a cut for each."""

    def __init__(self, programs):
        if not isinstance(programs, dict) or len(programs) == 0 or not all([is_name(name) for name in programs]):
            raise InvalidProgram(programs)
        names = sorted(programs)
        for name in names:
            if not isinstance(programs[name], Program):
                raise InvalidProgram(programs[name])
        self._programs = {name: programs[name] for name in names}
        self._hand = names[0]
        self._cuts = {name: [] for name in names}
        # The commands that changed the desk, each with the name and the cuts ahead of it.
        self._past = []

    @classmethod
    def from_log(cls, programs, commands):
        """A new desk on which these commands have been done."""
        desk = cls(programs)
        desk.do_all(*commands)
        return desk

    @property
    def name(self):
        """The name of the program in hand."""
        return self._hand

    @property
    def left_out(self):
        """The sorted list of the labels that are left out of the program in hand."""
        return list(self._cuts[self._hand])

    def do(self, command):
        """Does a command, and returns its answer."""
        word, names = _split(command)
        program, cut = self._programs[self._hand], self._cuts[self._hand]
        if word == "cut":
            return " ".join(cut) or "none"
        if word == "vows":
            return ", ".join(kept_vows(program, cut)) or "none"
        if word == "undo":
            self._undo()
        elif word == "take":
            if names[0] not in self._programs:
                raise UnknownName(names[0])
            self._change(command, names[0], cut)
        else:
            self._change(command, self._hand, _next_cut(program, cut, word, names))
        return "done"

    def do_all(self, *commands):
        """Does commands, and returns the list of their answers; if one fails, none is done."""
        trial = self.copy()
        answers = []
        for position, command in enumerate(commands):
            try:
                answers.append(trial.do(command))
            except (CutError, MissingError, StateError, LimitError) as error:
                raise CommandFailed(position) from error
        self._become(trial)
        return answers

    def log(self):
        """The list of the commands that changed the desk and were not undone."""
        return [command for command, _, _ in self._past]

    def copy(self):
        """A desk of its own that stands as this one does."""
        twin = Desk(self._programs)
        twin._become(self)
        return twin

    def _change(self, command, hand, cut):
        """Notes the command, and takes another program in hand, or another cut for the one in hand."""
        self._past.append((command, self._hand, self._cuts))
        self._cuts = {**self._cuts, self._hand: cut}
        self._hand = hand

    def _undo(self):
        if not self._past:
            raise NothingToUndo()
        _, self._hand, self._cuts = self._past.pop()

    def _become(self, other):
        self._hand = other._hand
        self._cuts = other._cuts
        self._past = list(other._past)


def _split(command):
    """The word of a command, and the list of the names behind it."""
    if not isinstance(command, str):
        raise InvalidCommand(command)
    for word in COMMANDS:
        fewest, most = COMMANDS[word]
        if command == word or command.startswith(f"{word} "):
            names = command[len(word):].split(" ")[1:]
            if len(names) >= fewest and (most is None or len(names) <= most) and all([is_name(name) for name in names]):
                return (word, names)
    raise InvalidCommand(command)


def _next_cut(program, cut, word, labels):
    """The cut behind a command that changes the one in hand."""
    for label in labels:
        check_label(program, label)
    if word == "leave":
        return closed_of(program, cut + [label for label in labels if label not in cut])
    if word == "pare":
        return pared_from(program, PARED_FOR, labels, cut)
    return []

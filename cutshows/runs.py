"""Runs: a program, done point by point."""

from cutshows.basics import replaced_in
from cutshows.checks import check_program, check_yes
from cutshows.errors import InvalidSymbols, NothingToUndo, RunOver, UnknownBox
from cutshows.rows import read_by
from cutshows.symbols import Symbols


class Moment:
    """How a run stands ahead of a move; it never changes once it belongs to a run.

    `at`: the point. `passes`: the where there. `numbers`: those of the symbols in the boxes. `aims`: the positions of
    the boxes that the pointers reach. `showing`, `asking`: what the move that led there showed and asked, in lists.
    """

    def __init__(self, at, passes, numbers, aims):
        self.at = at
        self.passes = passes
        self.numbers = numbers
        self.aims = aims
        self.showing = []
        self.asking = []


class Kept:
    """What a run has behind it when a block of trying begins, and what is kept for such blocks around it."""

    def __init__(self, past, outer):
        self.past = past
        self.outer = outer


class Trying:
    """A context manager that takes a run back to where it was."""

    def __init__(self, run):
        self._run = run
        self._kept = None

    def __enter__(self):
        self._kept = Kept(list(self._run._past), self._kept)
        return self._run

    def __exit__(self, kind, value, trace):
        self._run._past = self._kept.past
        self._kept = self._kept.outer


class Run:
    """A program that is being done in one world; what it asks is yes where the yes list has it."""

    def __init__(self, program, yes=(), symbols=None):
        check_program(program)
        check_yes(program, yes)
        many = len(program.boxes())
        if symbols is None:
            symbols = Symbols(many)
        if not isinstance(symbols, Symbols) or symbols.many != many:
            raise InvalidSymbols(symbols)
        self._program = program
        self._yes = {answered: True for answered in yes}
        self._symbols = symbols
        self._past = [Moment(0, program.plan.first_where(), tuple(range(many)), program.first_reached())]

    @property
    def program(self):
        """The program."""
        return self._program

    @property
    def symbols(self):
        """The symbols that it numbers."""
        return self._symbols

    @property
    def point(self):
        """The number of its point."""
        return self._past[-1].at

    @property
    def is_over(self):
        """Whether it is at the end."""
        return self._past[-1].at == self._program.plan.end

    @property
    def where(self):
        """The where of a doing at its point."""
        return self._past[-1].passes

    @property
    def moves(self):
        """How many moves led to its point."""
        return len(self._past) - 1

    def contents(self):
        """A dict from the boxes to the numbers of the symbols in them."""
        boxes = self._program.boxes()
        return {box: self._past[-1].numbers[boxes.index(box)] for box in sorted(boxes)}

    def reached(self):
        """A dict from the pointers to the boxes that they reach."""
        boxes = self._program.boxes()
        names = list(self._program.pointers())
        return {name: boxes[aim] for name, aim in zip(names, self._past[-1].aims)}

    def held(self, operand):
        """The number of the symbol in the box that a box or a pointer means."""
        names = self._program.boxes() + list(self._program.pointers())
        if not isinstance(operand, str) or operand not in names:
            raise UnknownBox(operand)
        now = self._past[-1]
        return now.numbers[self._program.meant(operand, now.aims)]

    def shown(self):
        """What it has shown, a list of tuples (label, where, number)."""
        return [told for moment in self._past for told in moment.showing]

    def asked(self):
        """What it has asked, a list of tuples (label, where, numbers that were read, answer)."""
        return [told for moment in self._past for told in moment.asking]

    def move(self):
        """Does what is at its point, and goes to the next one."""
        if self.is_over:
            raise RunOver()
        self._past.append(self._next_moment())

    def go(self):
        """Moves up to the end; returns how many moves."""
        before = self.moves
        while not self.is_over:
            self.move()
        return self.moves - before

    def undo(self):
        """Takes back the last move; the symbols keep their numbers."""
        if self.moves == 0:
            raise NothingToUndo()
        self._past.pop()

    def copy(self):
        """A run of its own that stands where this one does, with the same symbols."""
        twin = Run(self._program, (), self._symbols)
        twin._yes = self._yes
        twin._past = list(self._past)
        return twin

    def trying(self):
        """A context manager that gives the run, and takes it back when its block is left."""
        return Trying(self)

    def tried(self, action):
        """What the action with the run returns, behind which the run is taken back."""
        with self.trying() as run:
            return action(run)

    def _next_moment(self):
        now = self._past[-1]
        row = self._program.plan.doing[now.at]
        if row is None:
            return self._gone_on(now, False)
        word, label = row[0], row[1]
        values = tuple([self.held(operand) for operand in read_by(row)])
        answer = word in ("if", "loop") and (label, now.passes) in self._yes
        then = self._gone_on(now, answer)
        if word in ("if", "loop"):
            then.asking = [(label, now.passes, values, answer)]
        elif word == "show":
            then.showing = [(label, now.passes, values[0])]
        elif word == "point":
            aim = self._program.meant(row[3], now.aims)
            then.aims = replaced_in(now.aims, self._program.place_of(row[2]), aim)
        elif word in ("set", "copy"):
            number = self._symbols.number(label, now.passes, values) if word == "set" else values[0]
            then.numbers = replaced_in(now.numbers, self._program.meant(row[2], now.aims), number)
        return then

    def _gone_on(self, now, answer):
        """The moment at the next point, all else being as it is now."""
        plan = self._program.plan
        leading = plan.leading[now.at]
        aim = leading[1] if answer else leading[0]
        return Moment(aim, plan.next_where(now.at, now.passes, aim), now.numbers, now.aims)


def shown_by(program, yes):
    """What a new run shows up to the end."""
    run = Run(program, yes)
    run.go()
    return run.shown()

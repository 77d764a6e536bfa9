"""Standings: a program and a cut side by side, and which of their boxes hold the same."""

from cutshows.basics import is_count, replaced_in
from cutshows.cuts import check_cut, check_cut_and_vow
from cutshows.errors import InvalidPlay, InvalidStanding
from cutshows.partitions import GONE, are_classes, numbered
from cutshows.plays import Play
from cutshows.rounds import Routes
from cutshows.rows import read_by

VOWS = ("shows", "no more", "ends")
# The sides, by their positions in standings and in answers.
WHOLE = 0
CUT = 1
SIDES = (0, 1)


class Pair:
    """A program and a closed cut of it, side by side; it never changes."""

    def __init__(self, program, cut):
        self._program = program
        self._routes = (Routes(program, []), Routes(program, cut))
        self._width = len(program.boxes())
        self._aimed = len(program.pointers())
        self._end = program.plan.end

    def first(self):
        """The first standing."""
        reached = self._program.first_reached()
        points = [routes.start for routes in self._routes]
        return self._settled(points, [reached, reached], list(range(self._width)) * 2)

    def is_standing(self, value):
        """Whether any value is a standing."""
        if not isinstance(value, tuple) or len(value) != 5:
            return False
        points, aims, classes = value[:2], value[2:4], value[4]
        if not _are_counts(points, self._end + 1) or self._routes[CUT].skipped[points[CUT]]:
            return False
        if not all([self._are_aims(reached) for reached in aims]):
            return False
        if not isinstance(classes, tuple) or len(classes) != 2 * self._width or not are_classes(classes):
            return False
        if self._end in points:
            return value == self._settled(points, aims, classes)
        return GONE not in classes

    def steps(self, standing):
        """The list of the tuples (answers, standing) for all moves from a standing, by their answers."""
        points = standing[:2]
        if min(points) == self._end:
            return []
        row = self._program.plan.doing[min(points)]
        moving = [side for side in SIDES if points[side] == min(points)]
        alike = self._reads_alike(row, standing)
        aims, marks = self._done(row, moving, alike, standing)
        found = []
        for answers in _answers(row, moving, alike):
            ahead = [self._ahead(side, points[side], answers) if side in moving else points[side] for side in SIDES]
            found.append((answers, self._settled(ahead, aims, marks)))
        return found

    def is_wrong(self, standing, vow):
        """Whether a standing is wrong for a vow."""
        if vow == "ends":
            return self._can_stay(CUT, standing)
        # What this side shows the other one must show as well.
        side, other = (WHOLE, CUT) if vow == "shows" else (CUT, WHOLE)
        row = self._program.plan.doing[standing[side]]
        if row is not None and row[0] == "show" and standing[side] <= standing[other]:
            return standing[side] < standing[other] or not self._reads_alike(row, standing)
        return self._can_stay(other, standing) and self._routes[side].can_show(standing[side])

    def _can_stay(self, side, standing):
        """Whether this side moves alone, and can do so for ever."""
        return self._routes[side].is_round(standing[side], standing[1 - side])

    def _are_aims(self, value):
        """Whether any value is the tuple of the positions of the boxes that the pointers of a side reach."""
        return isinstance(value, tuple) and len(value) == self._aimed and _are_counts(value, self._width)

    def _holder(self, side, operand, standing):
        """The holder which an operand means on a side."""
        return side * self._width + self._program.meant(operand, standing[2 + side])

    def _reads_alike(self, row, standing):
        """Whether the values that a row reads are alike on both sides, one by one."""
        reads = () if row is None else read_by(row)
        holders = [[self._holder(side, operand, standing) for side in SIDES] for operand in reads]
        return all([standing[4][whole] == standing[4][cut] for whole, cut in holders])

    def _done(self, row, moving, alike, standing):
        """Which boxes the pointers reach when these sides have done a row, and marks of what the holders hold."""
        aims, marks = list(standing[2:4]), list(standing[4])
        word = "" if row is None else row[0]
        for side in moving:
            if word == "point":
                aim = self._program.meant(row[3], aims[side])
                aims[side] = replaced_in(aims[side], self._program.place_of(row[2]), aim)
            elif word == "copy":
                marks[self._holder(side, row[2], standing)] = standing[4][self._holder(side, row[3], standing)]
            elif word == "set":
                # No class is so great; from the same values both compute the same.
                marks[self._holder(side, row[2], standing)] = len(marks) + (0 if alike else side)
        return aims, marks

    def _ahead(self, side, point, answers):
        """The point to which a side moves."""
        leading = self._routes[side].leading[point]
        return leading[1] if answers[side] else leading[0]

    def _settled(self, points, aims, marks):
        """The standing with these points; what boxes hold does not matter any more if a side is at the end."""
        if self._end in points:
            reached = (0,) * self._aimed
            return (points[0], points[1], reached, reached, (GONE,) * (2 * self._width))
        return (points[0], points[1], aims[0], aims[1], tuple(numbered(marks)))


def first_standing(program, labels):
    """The first standing."""
    return _pair(program, labels).first()


def is_standing(program, labels, value):
    """Whether any value is a standing, be it reached or not."""
    return _pair(program, labels).is_standing(value)


def moves_from(program, labels, standing):
    """The list of the tuples (answers, standing) for all moves from a standing, in ascending order of the answers."""
    pair = _pair(program, labels)
    _check_standing(pair, standing)
    return pair.steps(standing)


def is_wrong(program, labels, standing, vow):
    """Whether a standing is wrong for a vow."""
    check_cut_and_vow(program, labels, vow)
    pair = Pair(program, labels)
    _check_standing(pair, standing)
    return pair.is_wrong(standing, vow)


def through(play):
    """The list of the standings through which a play goes, from the first one up to both ends."""
    if not isinstance(play, Play):
        raise InvalidPlay(play)
    pair = Pair(play.program, play.left_out)
    waiting = [told[::-1] for told in play.answers()]
    found = [pair.first()]
    steps = pair.steps(found[0])
    while steps:
        asked = steps[0][0]
        answers = tuple([None if asked[side] is None else waiting[side].pop() for side in SIDES])
        found.append(dict(steps)[answers])
        steps = pair.steps(found[-1])
    return found


def _pair(program, labels):
    check_cut(program, labels)
    return Pair(program, labels)


def _check_standing(pair, standing):
    if not pair.is_standing(standing):
        raise InvalidStanding(standing)


def _are_counts(values, many):
    """Whether these are all COUNTS below so many."""
    return all([is_count(value) and value < many for value in values])


def _answers(row, moving, alike):
    """The answers of all moves at a row that these sides do, the whole program's first, False ahead of True."""
    asks = row is not None and row[0] in ("if", "loop")
    choices = [[False, True] if asks and side in moving else [None] for side in SIDES]
    pairs = [(whole, cut) for whole in choices[WHOLE] for cut in choices[CUT]]
    same = alike and len(moving) == 2
    return [(whole, cut) for whole, cut in pairs if whole == cut or not same]

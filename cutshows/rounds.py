"""Rounds: the ways of a cut program by the points of the whole one, and where it can stay and show."""

from cutshows.checks import check_point
from cutshows.cuts import check_cut
from cutshows.errors import InvalidPoint
from cutshows.points import told_ways


class Routes:
    """The ways of a program without the rows of a closed cut; they never change.

    `skipped` tells of each point whether it is left out, `leading` to which points its ways lead, as that of a plan
    does (none from one that is left out), `start` is the first point. What was found out is kept, as the same is
    asked of many standings.
    """

    def __init__(self, program, cut):
        plan = program.plan
        self._doing = plan.doing
        self._following = plan.following
        self.skipped = [told[1] in cut or any([call in cut for call in told[2]]) for told in plan.told]
        self.leading = [self._led(point, aims) for point, aims in enumerate(plan.leading)]
        self.start = self._onward(0)
        self._rounds = {}
        self._shows = {}

    def is_round(self, point, other):
        """Whether the point is round below the other one."""
        if (point, other) not in self._rounds:
            self._rounds[(point, other)] = point in self._spread(point, other)
        return self._rounds[(point, other)]

    def can_show(self, point):
        """Whether a show is there, or can be reached from there."""
        if point not in self._shows:
            found = [point] + self._spread(point, len(self.skipped))
            rows = [self._doing[reached] for reached in found]
            self._shows[point] = any([row is not None and row[0] == "show" for row in rows])
        return self._shows[point]

    def _led(self, point, aims):
        """Where the ways from a point lead that lead to these in the whole program."""
        # Within a left out loop a way may lead to the end of its pass, which nothing follows.
        return () if self.skipped[point] else tuple([self._onward(aim) for aim in aims])

    def _onward(self, point):
        """Where a way to this point leads, past all that is left out."""
        while self.skipped[point]:
            point = self._following[point]
        return point

    def _spread(self, point, below):
        """The points less than that to which ways lead, at least one, through such points."""
        found = {}
        waiting = [point]
        while waiting:
            start = waiting.pop()
            for aim in self.leading[start]:
                if aim < below and aim not in found:
                    found[aim] = True
                    waiting.append(aim)
        return list(found)


def cut_ways(program, labels, point):
    """A dict from the answers to the next points, in the cut program, with the points of the program."""
    routes = _routes(program, labels)
    _check_kept(program, routes, point)
    return told_ways(routes.leading[point])


def first_point(program, labels):
    """The first point of the cut program."""
    return _routes(program, labels).start


def is_round(program, labels, point, other):
    """Whether the point is round below the other one, in the cut program's ways."""
    routes = _routes(program, labels)
    _check_kept(program, routes, point)
    check_point(program, other)
    return routes.is_round(point, other)


def can_show(program, labels, point):
    """Whether a show can be reached by the cut program's ways, or is there."""
    routes = _routes(program, labels)
    _check_kept(program, routes, point)
    return routes.can_show(point)


def _routes(program, labels):
    check_cut(program, labels)
    return Routes(program, labels)


def _check_kept(program, routes, point):
    check_point(program, point)
    if routes.skipped[point]:
        raise InvalidPoint(point)

"""Points: where a program can be, and the ways from there."""

from cutshows.checks import check_label, check_point, check_program
from cutshows.errors import InvalidPoint, UnknownName


def points(program):
    """The list of the points, in their sequence."""
    check_program(program)
    return list(program.plan.told)


def point_of(program, label, calls=()):
    """The number of the point of a row with these calls."""
    check_program(program)
    check_label(program, label)
    # Calls of another kind could not be looked up, or only seem to be the same.
    if not isinstance(calls, tuple) or not all([isinstance(call, str) for call in calls]):
        raise UnknownName(calls)
    place = ("row", label, calls)
    if place not in program.plan.places:
        raise UnknownName(calls)
    return program.plan.places[place]


def ways(program, point):
    """A dict from the answers to the next points."""
    check_program(program)
    check_point(program, point)
    return told_ways(program.plan.leading[point])


def follows(program, point):
    """The number of the point of what follows a place."""
    check_program(program)
    check_point(program, point)
    following = program.plan.following[point]
    if following is None:
        raise InvalidPoint(point)
    return following


def told_ways(leading):
    """The dict of ways that lead to these points: none, one, or those for no and for yes."""
    if len(leading) == 2:
        return {False: leading[0], True: leading[1]}
    return {None: aim for aim in leading}

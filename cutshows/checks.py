"""Checks of the parameters that many functions have, by their names; each raises the error of its parameter."""

from cutshows.basics import is_count, is_list, is_where
from cutshows.errors import (
    InvalidLabels, InvalidPoint, InvalidProgram, InvalidVow, InvalidWish, InvalidYes, UnknownLabel,
)
from cutshows.programs import Program

# Again in standings.py, which stands behind the plays that ask for a vow here.
KNOWN_VOWS = ("shows", "no more", "ends")


def check_program(program):
    if not isinstance(program, Program):
        raise InvalidProgram(program)


def check_label(program, label):
    if label not in program:
        raise UnknownLabel(label)


def check_labels(program, labels):
    if not is_list(labels):
        raise InvalidLabels(None)
    for position, label in enumerate(labels):
        if label not in program or label in labels[:position]:
            raise InvalidLabels(position)


def check_point(program, point):
    if not is_count(point) or point > program.plan.end:
        raise InvalidPoint(point)


def check_yes(program, yes):
    if not is_list(yes):
        raise InvalidYes(None)
    asked = program.tests()
    for position, answered in enumerate(yes):
        if not _is_answered(answered, asked):
            raise InvalidYes(position)


def check_vow(vow):
    if not is_vow(vow):
        raise InvalidVow(vow)


def check_wish(wish):
    if not is_list(wish) or len(wish) == 0:
        raise InvalidWish(None)
    for position, vow in enumerate(wish):
        if not is_vow(vow) or vow in wish[:position]:
            raise InvalidWish(position)


def is_vow(value):
    """Whether any value is a vow."""
    return isinstance(value, str) and value in KNOWN_VOWS


def _is_answered(value, asked):
    if not isinstance(value, tuple) or len(value) != 2:
        return False
    label, where = value
    return isinstance(label, str) and label in asked and is_where(where)

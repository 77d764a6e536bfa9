"""All closed cuts of a program: which are right, which of them are least, and what that tells of its rows."""

from cutshows.checks import check_program, check_wish
from cutshows.cuts import all_closed, closed_of
from cutshows.errors import TooMany
from cutshows.tables import is_right

# A program with more rows could have too many closed cuts to look at all of them.
MOST_ROWS_FOR_ALL = 8


def right_cuts(program, wish):
    """The list of all closed right cuts, sorted lists, in ascending order."""
    check_program(program)
    check_wish(wish)
    check_few_rows(program)
    return [cut for cut in all_closed(program) if is_right(program, cut, wish)]


def least_cuts(program, wish):
    """The list of the least cuts, sorted lists, in ascending order."""
    right = right_cuts(program, wish)
    return [cut for cut in right if not any([cut != other and has_all(other, cut) for other in right])]


def fewest_kept(program, wish):
    """How many rows the cut program has at least, if the cut is right."""
    right = right_cuts(program, wish)
    return len(program) - max([len(cut) for cut in right])


def needed(program, wish):
    """The labels of the rows that no closed right cut has, in text order."""
    right = right_cuts(program, wish)
    return [label for label in program.labels() if not any([label in cut for cut in right])]


def bars(program, wish):
    """The sorted list of the pairs of labels each of which can be left out with what must go with it, but not both."""
    right = right_cuts(program, wish)
    return [
        (one, other) for one, other in _pairs(program)
        if _is_right_with(program, [one], right) and _is_right_with(program, [other], right)
        and not _is_right_with(program, [one, other], right)
    ]


def helps(program, wish):
    """The sorted list of the pairs of labels that can be left out together only."""
    right = right_cuts(program, wish)
    return [
        (one, other) for one, other in _pairs(program)
        if not _is_right_with(program, [one], right) and not _is_right_with(program, [other], right)
        and _is_right_with(program, [one, other], right)
    ]


def check_few_rows(program):
    if len(program) > MOST_ROWS_FOR_ALL:
        raise TooMany("rows", MOST_ROWS_FOR_ALL)


def has_all(cut, labels):
    """Whether the cut has all these labels."""
    return all([label in cut for label in labels])


def _pairs(program):
    labels = sorted(program.labels())
    return [(one, other) for place, one in enumerate(labels) for other in labels[place + 1:]]


def _is_right_with(program, labels, right):
    """Whether the least closed cut with these labels is among the right ones."""
    return closed_of(program, labels) in right

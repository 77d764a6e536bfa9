"""Papers and plays against vows: what shows that a cut is right, or that it is wrong."""

from cutshows.basics import is_list
from cutshows.checks import check_vow
from cutshows.cuts import check_cut_and_vow
from cutshows.errors import InvalidPlay, InvalidYes, TwoWorlds
from cutshows.plays import Play
from cutshows.standings import Pair, through


def is_paper(program, labels, vow, value):
    """Whether any value is a paper for the vow."""
    check_cut_and_vow(program, labels, vow)
    pair = Pair(program, labels)
    if not is_list(value) or not all([pair.is_standing(standing) for standing in value]):
        return False
    told = {standing: True for standing in value}
    if pair.first() not in told or any([pair.is_wrong(standing, vow) for standing in told]):
        return False
    return all([after in told for standing in told for _, after in pair.steps(standing)])


def is_against(program, labels, vow, value):
    """Whether any value is a tuple of two yes lists that make a play against the vow."""
    check_cut_and_vow(program, labels, vow)
    if not isinstance(value, tuple) or len(value) != 2:
        return False
    whole_yes, cut_yes = value
    try:
        played = Play(program, labels, whole_yes, cut_yes)
    except (InvalidYes, TwoWorlds):
        return False
    return length_of(played, vow) is not None


def length_of(play, vow):
    """How many moves a play makes ahead of the first standing that is wrong for the vow; None if none is."""
    if not isinstance(play, Play):
        raise InvalidPlay(play)
    check_vow(vow)
    pair = Pair(play.program, play.left_out)
    wrong = [length for length, standing in enumerate(through(play)) if pair.is_wrong(standing, vow)]
    return wrong[0] if wrong else None

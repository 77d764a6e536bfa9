"""Claims about cuts, whether they are true, and papers for the true ones."""

from cutshows.basics import is_list
from cutshows.checks import check_wish, is_vow
from cutshows.cuts import all_closed, check_cut, closed_of
from cutshows.errors import InvalidClaim, InvalidLabels, InvalidWish, NotClosed, Untrue
from cutshows.least import check_few_rows, has_all
from cutshows.papers import is_against, is_paper
from cutshows.programs import Program
from cutshows.tables import is_right, paper, play_against

# What stands in a claim behind its word and its program.
FORMS = {
    "right": ("cut", "vow"),
    "wrong": ("cut", "vow"),
    "needed": ("label", "wish"),
    "least": ("cut", "wish"),
    "bar": ("label", "label", "wish"),
}


def is_claim(value):
    """Whether any value is a claim, be it true or not."""
    if not isinstance(value, tuple) or len(value) < 2:
        return False
    word, program = value[:2]
    if not isinstance(word, str) or word not in FORMS or not isinstance(program, Program):
        return False
    if len(value) != len(FORMS[word]) + 2:
        return False
    if not all([_fits(kind, part, program) for kind, part in zip(FORMS[word], value[2:])]):
        return False
    return word != "bar" or value[2] != value[3]


def is_true(claim):
    """Whether a claim is true."""
    _check_claim(claim)
    word, program, told = claim[0], claim[1], claim[2:]
    if word == "right":
        return is_right(program, told[0], [told[1]])
    if word == "wrong":
        return not is_right(program, told[0], [told[1]])
    wish = told[-1]
    if word == "needed":
        return not _is_one_right(program, _cuts_with(program, [told[0]]), wish)
    if word == "least":
        return is_right(program, told[0], wish) and not _is_one_right(program, _greater(program, told[0]), wish)
    one, other, both = _cuts_of(program, told[0], told[1])
    return is_right(program, one, wish) and is_right(program, other, wish) and not is_right(program, both, wish)


def paper_for(claim):
    """A paper for a true claim."""
    if not is_true(claim):
        raise Untrue(claim)
    word, program, told = claim[0], claim[1], claim[2:]
    if word == "right":
        return paper(program, told[0], told[1])
    if word == "wrong":
        return play_against(program, told[0], told[1]).yes_lists()
    wish = told[-1]
    if word == "needed":
        return _plays_against(program, _cuts_with(program, [told[0]]), wish)
    if word == "least":
        return (_papers(program, told[0], wish), _plays_against(program, _greater(program, told[0]), wish))
    one, other, both = _cuts_of(program, told[0], told[1])
    return (_papers(program, one, wish), _papers(program, other, wish), _against(program, both, wish))


def is_judged(claim, value):
    """Whether any value is a paper for the claim; there is none for one that is not true."""
    _check_claim(claim)
    word, program, told = claim[0], claim[1], claim[2:]
    if word == "right":
        return is_paper(program, told[0], told[1], value)
    if word == "wrong":
        return is_against(program, told[0], told[1], value)
    wish = told[-1]
    if word == "needed":
        return _are_plays_against(program, _cuts_with(program, [told[0]]), wish, value)
    if not isinstance(value, tuple) or len(value) != len(FORMS[word]):
        return False
    if word == "least":
        greater = _greater(program, told[0])
        return _are_papers(program, told[0], wish, value[0]) and _are_plays_against(program, greater, wish, value[1])
    one, other, both = _cuts_of(program, told[0], told[1])
    if not _are_papers(program, one, wish, value[0]) or not _are_papers(program, other, wish, value[1]):
        return False
    return _is_against(program, both, wish, value[2])


def _fits(kind, value, program):
    """Whether a part of a claim is of its kind."""
    if kind == "vow":
        return is_vow(value)
    if kind == "label":
        return value in program
    try:
        if kind == "wish":
            check_wish(value)
        else:
            check_cut(program, value)
    except (InvalidWish, InvalidLabels, NotClosed):
        return False
    return True


def _check_claim(claim):
    """Raises the error of what is no claim, and then that of a program with too many rows for its word."""
    if not is_claim(claim):
        raise InvalidClaim(claim)
    if claim[0] not in ("right", "wrong"):
        check_few_rows(claim[1])


def _cuts_with(program, labels):
    """The list of all closed cuts that have these labels."""
    return [cut for cut in all_closed(program) if has_all(cut, labels)]


def _greater(program, labels):
    """The list of the other closed cuts that have all labels of this one."""
    return [cut for cut in _cuts_with(program, labels) if len(cut) > len(labels)]


def _cuts_of(program, one, other):
    """The cuts of two labels, and the one of both."""
    return (closed_of(program, [one]), closed_of(program, [other]), closed_of(program, [one, other]))


def _is_one_right(program, cuts, wish):
    return any([is_right(program, cut, wish) for cut in cuts])


def _papers(program, cut, wish):
    """The list of papers for a right cut, one for each vow."""
    return [paper(program, cut, vow) for vow in wish]


def _are_papers(program, cut, wish, value):
    if not is_list(value) or len(value) != len(wish):
        return False
    return all([is_paper(program, cut, vow, told) for vow, told in zip(wish, value)])


def _against(program, cut, wish):
    """A tuple of a vow of the wish and the yes lists of a play against it; None if the cut is right."""
    for vow in wish:
        played = play_against(program, cut, vow)
        if played is not None:
            return (vow, *played.yes_lists())
    return None


def _is_against(program, cut, wish, value):
    if not isinstance(value, tuple) or len(value) != 3:
        return False
    return is_vow(value[0]) and value[0] in wish and is_against(program, cut, value[0], value[1:])


def _plays_against(program, cuts, wish):
    """The list of what is told against each of these cuts, none of which is right."""
    return [(cut, *_against(program, cut, wish)) for cut in cuts]


def _are_plays_against(program, cuts, wish, value):
    if not is_list(value) or len(value) != len(cuts):
        return False
    return all([_is_told_against(program, cut, wish, told) for cut, told in zip(cuts, value)])


def _is_told_against(program, cut, wish, value):
    """Whether any value is a tuple of the labels of the cut and what is told against it."""
    if not isinstance(value, tuple) or len(value) != 4 or not is_list(value[0]):
        return False
    # Other kinds of values might only seem to be the same.
    if not all([isinstance(label, str) for label in value[0]]) or list(value[0]) != cut:
        return False
    return _is_against(program, cut, wish, value[1:])

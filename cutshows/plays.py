"""Plays: a program and a cut, each done once, in one world."""

from cutshows.checks import check_labels, check_program, check_vow
from cutshows.cuts import cut_program
from cutshows.errors import TwoWorlds
from cutshows.runs import Run


class Play:
    """What a program and a closed cut do in one world; it never changes."""

    def __init__(self, program, labels, whole_yes, cut_yes):
        check_program(program)
        check_labels(program, labels)
        # Ahead of the cut, as this yes list is looked at before it matters whether the cut is closed.
        whole = Run(program, whole_yes)
        cut = Run(cut_program(program, labels), cut_yes, whole.symbols)
        whole.go()
        cut.go()
        _check_world(whole.asked(), cut.asked())
        self._program = program
        self._left_out = sorted(labels)
        self._asked = (whole.asked(), cut.asked())
        self._shown = (whole.shown(), cut.shown())
        self._yes = (_yes_of(whole.asked()), _yes_of(cut.asked()))

    @property
    def program(self):
        """The whole program."""
        return self._program

    @property
    def left_out(self):
        """The sorted list of the labels that are left out."""
        return list(self._left_out)

    def yes_lists(self):
        """The yes lists of the whole program and of the cut one, sorted by their text, with what is asked alone."""
        return (list(self._yes[0]), list(self._yes[1]))

    def answers(self):
        """The lists of all answers that the whole program and the cut one get, in their sequence."""
        whole, cut = self._asked
        return ([told[3] for told in whole], [told[3] for told in cut])

    def whole_shown(self):
        """What the whole program shows."""
        return list(self._shown[0])

    def cut_shown(self):
        """What the cut program shows."""
        return list(self._shown[1])

    def unlike(self):
        """What both do not show the same, in tuples (label, where, number of the whole one, of the cut one)."""
        whole = _numbers(self._shown[0])
        cut = _numbers(self._shown[1])
        found = [(*place, whole[place], cut.get(place)) for place in whole if whole[place] != cut.get(place)]
        return found + [(*place, None, cut[place]) for place in cut if place not in whole]

    def keeps(self, vow):
        """Whether the vow is kept in this play; both sides end in each one."""
        check_vow(vow)
        whole, cut = self._shown
        if vow == "shows":
            return all([told in cut for told in whole])
        return vow == "ends" or all([told in whole for told in cut])

    def __eq__(self, other):
        return (
            isinstance(other, Play) and self._program == other._program
            and self._left_out == other._left_out and self._yes == other._yes
        )


def _check_world(whole, cut):
    """Raises the error of two worlds: the same is asked, and the answers are unlike."""
    answers = {told[:3]: told[3] for told in cut}
    for label, where, values, answer in whole:
        if answers.get((label, where, values), answer) != answer:
            raise TwoWorlds(label, where)


def _yes_of(asked):
    return sorted([told[:2] for told in asked if told[3]], key=str)


def _numbers(shown):
    """A dict from each label and where, in their sequence, to the number that is shown there."""
    return {(label, where): number for label, where, number in shown}

"""Tables: all standings that can be reached, and what they tell of the vows."""

from cutshows.cuts import check_cut, check_cut_and_vow, check_cut_and_wish
from cutshows.errors import NotRight, TooMany
from cutshows.plays import Play
from cutshows.standings import SIDES, VOWS, Pair

MOST_STANDINGS = 5000


class Reached:
    """All standings that a program and a closed cut reach from the first one; they never change.

    `origins` is a dict from each of them, the nearest ones first, to the standing from which it was first reached and
    the answers of that move; from the first standing to None.
    """

    def __init__(self, program, cut):
        self._plan = program.plan
        self._pair = Pair(program, cut)
        self.origins = {self._pair.first(): None}
        newest = list(self.origins)
        while newest:
            newest = self._one_move_on(newest)

    def first_wrong(self, vow):
        """A standing that is wrong for the vow, as near as can be, or None."""
        for standing in self.origins:
            if self._pair.is_wrong(standing, vow):
                return standing
        return None

    def keeps(self, vow):
        """Whether the cut keeps the vow."""
        return self.first_wrong(vow) is None

    def road_to(self, standing):
        """The list of the tuples (standing, answers) of as few moves as can be from the first standing to this one."""
        road = []
        origin = self.origins[standing]
        while origin is not None:
            road.append(origin)
            origin = self.origins[origin[0]]
        return road[::-1]

    def yes_lists_to(self, standing):
        """Yes lists for both sides of a play that goes to this standing, and says no everywhere behind it."""
        road = self.road_to(standing)
        gone = [before for before, _ in road] + [standing]
        passes = [self._plan.first_where(point) for point in gone[0][:2]]
        found = ([], [])
        for (before, answers), after in zip(road, gone[1:]):
            for side in SIDES:
                # A side that does not move has no answer, and stays where it is.
                if answers[side]:
                    found[side].append((self._plan.doing[before[side]][1], passes[side]))
                if before[side] != after[side]:
                    passes[side] = self._plan.next_where(before[side], passes[side], after[side])
        return found

    def _one_move_on(self, newest):
        """Notes the standings that are one move behind these and not noted yet, and lists them."""
        found = []
        for standing in newest:
            for answers, after in self._pair.steps(standing):
                if after not in self.origins:
                    self.origins[after] = (standing, answers)
                    found.append(after)
            if len(self.origins) > MOST_STANDINGS:
                raise TooMany("standings", MOST_STANDINGS)
        return found


def table(program, labels):
    """The sorted list of all standings that can be reached from the first one."""
    check_cut(program, labels)
    return sorted(Reached(program, labels).origins)


def is_right(program, labels, wish):
    """Whether the closed cut keeps all vows of the wish."""
    check_cut_and_wish(program, labels, wish)
    reached = Reached(program, labels)
    return all([reached.keeps(vow) for vow in wish])


def kept_vows(program, labels):
    """The tuple of the vows that the closed cut keeps, in their sequence."""
    check_cut(program, labels)
    reached = Reached(program, labels)
    return tuple([vow for vow in VOWS if reached.keeps(vow)])


def paper(program, labels, vow):
    """A paper that shows that the closed cut keeps the vow: its table."""
    check_cut_and_vow(program, labels, vow)
    reached = Reached(program, labels)
    if not reached.keeps(vow):
        raise NotRight(vow)
    return sorted(reached.origins)


def play_against(program, labels, vow):
    """A play against the vow that is as short as can be, or None."""
    check_cut_and_vow(program, labels, vow)
    reached = Reached(program, labels)
    wrong = reached.first_wrong(vow)
    if wrong is None:
        return None
    whole_yes, cut_yes = reached.yes_lists_to(wrong)
    return Play(program, labels, whole_yes, cut_yes)


def least_length(program, labels, vow):
    """The least length of a play against the vow, or None."""
    check_cut_and_vow(program, labels, vow)
    reached = Reached(program, labels)
    wrong = reached.first_wrong(vow)
    return None if wrong is None else len(reached.road_to(wrong))

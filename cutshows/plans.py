"""Plans: the points of a program, and the ways between them, worked out once."""

from cutshows.errors import TooMany
from cutshows.rows import blocks_of

MOST_CALLS = 2
MOST_LOOPS = 2
MOST_POINTS = 40
JUMPS = ("leave", "next", "back", "stop")


class Plan:
    """The points of a program with kept rows; it never changes.

    Each of its lists has one item for each point. `told`: the point itself. `doing`: its row, or None for the end of
    a pass and for the end. `chains`: the loops and calls around it, from outside, a loop's own passes included, as
    pairs of a word and a label. `following`: what follows its place, or None. `leading`: the points to which its ways
    lead, in a tuple: none, one, or those for no and for yes.
    """

    def __init__(self, rows, parts):
        self.told = _points_of(rows, parts, ()) + [("end", "", ())]
        self.places = {told: point for point, told in enumerate(self.told)}
        self.end = len(self.told) - 1
        self.doing = [None] * len(self.told)
        self.chains = [()] * len(self.told)
        self.following = [None] * len(self.told)
        self.leading = [()] * len(self.told)
        self._parts = parts
        self._enter(rows, {"calls": (), "chain": (), "after": self.end, "stop": self.end})
        self._check_limits()

    def first_where(self, point=0):
        """The where of the first point; of another one, if a program without some rows begins there."""
        return _begun(self.chains[point])

    def next_where(self, start, where, aim):
        """The where at the aim of a way that leads there from the start, at which it was that where."""
        if self.told[start][0] == "pass":
            # The only way from there leads to the next test of the same loop.
            return where[:-1] + (where[-1] + 1,)
        shared = _shared(self.chains[start], self.chains[aim])
        return where[:shared] + _begun(self.chains[aim][shared:])

    def _check_limits(self):
        if any([len(told[2]) > MOST_CALLS for told in self.told]):
            raise TooMany("calls", MOST_CALLS)
        if any([_loops(chain) > MOST_LOOPS for chain in self.chains]):
            raise TooMany("loops", MOST_LOOPS)
        if len(self.told) > MOST_POINTS:
            raise TooMany("points", MOST_POINTS)

    def _enter(self, block, frame):
        """Notes the rows of a block; the frame tells what is around it, and where jumps out of it lead."""
        for position, row in enumerate(block):
            following = self._first(block[position + 1:], frame["calls"], frame["after"])
            point = self.places[("row", row[1], frame["calls"])]
            self.doing[point] = row
            self.chains[point] = frame["chain"]
            self.following[point] = following
            self.leading[point] = self._leading_from(row, following, frame)
            self._enter_within(row, point, following, frame)

    def _first(self, block, calls, otherwise):
        """The point of the first row of a block, or the other one, if the block is empty."""
        return self.places[("row", block[0][1], calls)] if block else otherwise

    def _leading_from(self, row, following, frame):
        word, label, calls = row[0], row[1], frame["calls"]
        if word == "if":
            return (self._first(row[4], calls, following), self._first(row[3], calls, following))
        if word == "loop":
            return (following, self._first(row[3], calls, self.places[("pass", label, calls)]))
        if word == "call":
            return (self._first(self._parts[row[2]], calls + (label,), following),)
        return (frame[word],) if word in JUMPS else (following,)

    def _enter_within(self, row, point, following, frame):
        """Notes what stands within a row, or in the part that it calls."""
        word, label, calls = row[0], row[1], frame["calls"]
        if word == "loop":
            ending = self.places[("pass", label, calls)]
            chain = frame["chain"] + (("loop", label),)
            self.chains[point] = self.chains[ending] = chain
            self.leading[ending] = (point,)
            frame = {**frame, "chain": chain, "leave": following, "next": ending, "after": ending}
        elif word == "call":
            # No leave and no next: in a part they do not mean a loop around its call.
            self._enter(self._parts[row[2]], {
                "calls": calls + (label,), "chain": frame["chain"] + (("call", label),),
                "after": following, "back": following, "stop": self.end,
            })
        else:
            frame = {**frame, "after": following}
        for block in blocks_of(row):
            self._enter(block, frame)


def _points_of(block, parts, calls):
    """The points of a block's places, and of those that are reached from there by calls, in their sequence."""
    found = []
    for row in block:
        found.append(("row", row[1], calls))
        if row[0] == "call":
            found.extend(_points_of(parts[row[2]], parts, calls + (row[1],)))
        for inner in blocks_of(row):
            found.extend(_points_of(inner, parts, calls))
        if row[0] == "loop":
            found.append(("pass", row[1], calls))
    return found


def _loops(chain):
    return len([label for word, label in chain if word == "loop"])


def _shared(one, other):
    """How many loops and calls are around both, from outside."""
    many = 0
    for first, second in zip(one, other):
        if first != second:
            break
        many += 1
    return many


def _begun(chain):
    """The where of what is reached from outside: each loop is in its first pass."""
    return tuple([1 if word == "loop" else label for word, label in chain])

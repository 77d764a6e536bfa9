"""The points, ways and runs of a program once more, straight from the document, to compare with the package's."""


class Frame:
    """One block around a place: its kind is "main", "if", "loop" or "call", and the place's row, or the row in whose
    block or part the place is, stands in it at this index."""

    def __init__(self, kind, block, index, calls):
        self.kind, self.block, self.index, self.calls = kind, block, index, calls

    def point(self):
        return ("row", self.block[self.index][1], self.calls)


def paths_of(program):
    """All points in their sequence; those that are places with their frames from outside, the others with None."""
    found = {}
    walk(program, [], "main", program.rows(), (), found)
    found[("end", "", ())] = None
    return found


def walk(program, outer, kind, block, calls, found):
    for index, row in enumerate(block):
        frames = outer + [Frame(kind, block, index, calls)]
        found[frames[-1].point()] = frames
        if row[0] == "call":
            walk(program, frames, "call", program.parts()[row[2]], calls + (row[1],), found)
        for inner in row[3:] if row[0] in ("if", "loop") else []:
            walk(program, frames, row[0], inner, calls, found)
        if row[0] == "loop":
            found[("pass", row[1], calls)] = None


class Ways:
    """The ways of a program without some rows, by the points themselves."""

    def __init__(self, program, left_out=()):
        self.program = program
        self.left_out = left_out
        self.paths = paths_of(program)

    def is_left_out(self, point):
        return point[1] in self.left_out or any(call in self.left_out for call in point[2])

    def follows(self, frames):
        """What follows the place with these frames, in the whole program."""
        last = frames[-1]
        if last.index + 1 < len(last.block):
            return ("row", last.block[last.index + 1][1], last.calls)
        if last.kind == "main":
            return ("end", "", ())
        if last.kind == "loop":
            return ("pass", *frames[-2].point()[1:])
        return self.follows(frames[:-1])

    def onward(self, point):
        while self.is_left_out(point):
            point = self.follows(self.paths[point])
        return point

    def first(self):
        return self.onward(list(self.paths)[0])

    def into(self, frames, block, calls, kind):
        if block:
            return ("row", block[0][1], calls)
        return ("pass", *frames[-1].point()[1:]) if kind == "loop" else self.follows(frames)

    def ways(self, point):
        """A dict from the answers to the next points."""
        return {answer: self.onward(aim) for answer, aim in self.whole_ways(point).items()}

    def whole_ways(self, point):
        if point[0] == "end":
            return {}
        if point[0] == "pass":
            return {None: ("row", *point[1:])}
        frames = self.paths[point]
        row = frames[-1].block[frames[-1].index]
        if row[0] == "if":
            return {answer: self.into(frames, row[3 + (not answer)], point[2], "if") for answer in (False, True)}
        if row[0] == "loop":
            return {False: self.follows(frames), True: self.into(frames, row[3], point[2], "loop")}
        if row[0] == "call":
            return {None: self.into(frames, self.program.parts()[row[2]], point[2] + (row[1],), "call")}
        if row[0] == "stop":
            return {None: ("end", "", ())}
        kinds = [frame.kind for frame in frames]
        if row[0] in ("leave", "next"):
            place = max(index for index, kind in enumerate(kinds) if kind == "loop")
            loop = frames[:place]
            return {None: self.follows(loop) if row[0] == "leave" else ("pass", *loop[-1].point()[1:])}
        if row[0] == "back":
            return {None: self.follows(frames[:max(index for index, kind in enumerate(kinds) if kind == "call")])}
        return {None: self.follows(frames)}

    def spread(self, start, allowed):
        """The points to which one way or more lead from the start, all of them allowed ones."""
        found = set()
        newest = {start}
        while newest:
            newest = {aim for point in newest for aim in self.ways(point).values() if allowed(aim)} - found
            found |= newest
        return found


class Jump(Exception):
    pass


class Leave(Jump):
    pass


class Next(Jump):
    pass


class Back(Jump):
    pass


class Stop(Jump):
    pass


JUMPS = {"leave": Leave, "next": Next, "back": Back, "stop": Stop}


class Doing:
    """A program without some rows, done by going down into its blocks; values are told by their whole questions."""

    def __init__(self, program, yes, left_out=()):
        self.program, self.yes, self.left_out = program, list(yes), left_out
        self.values = {box: ("box", position) for position, box in enumerate(program.boxes())}
        self.aims = program.pointers()
        self.visits = []
        self.shown = []
        self.asked = []
        self.results = []
        try:
            self.block(program.rows(), (), ())
        except Stop:
            pass
        self.visit(("end", "", ()), ())

    def visit(self, point, where):
        self.visits.append((point, where, dict(self.values), dict(self.aims)))

    def box(self, operand):
        return self.aims.get(operand, operand)

    def value(self, operand):
        return self.values[self.box(operand)]

    def answer(self, label, where, reads):
        told = (label, where) in self.yes
        self.asked.append((label, where, tuple(self.value(operand) for operand in reads), told))
        return told

    def block(self, rows, calls, where):
        for row in rows:
            if row[1] not in self.left_out:
                self.row(row, calls, where)

    def row(self, row, calls, where):
        word, label = row[:2]
        if word == "loop":
            self.loop(row, calls, where)
            return
        self.visit(("row", label, calls), where)
        if word in JUMPS:
            raise JUMPS[word]
        getattr(self, word + "_row")(row, calls, where)

    def set_row(self, row, calls, where):
        result = ("set", row[1], where, tuple(self.value(operand) for operand in row[3]))
        self.results.append(result)
        self.values[self.box(row[2])] = result

    def copy_row(self, row, calls, where):
        self.values[self.box(row[2])] = self.value(row[3])

    def point_row(self, row, calls, where):
        self.aims[row[2]] = self.box(row[3])

    def show_row(self, row, calls, where):
        self.shown.append((row[1], where, self.value(row[2])))

    def if_row(self, row, calls, where):
        self.block(row[3] if self.answer(row[1], where, row[2]) else row[4], calls, where)

    def call_row(self, row, calls, where):
        try:
            self.block(self.program.parts()[row[2]], calls + (row[1],), where + (row[1],))
        except Back:
            pass

    def loop(self, row, calls, where):
        number = 0
        while True:
            number += 1
            here = where + (number,)
            self.visit(("row", row[1], calls), here)
            if not self.answer(row[1], here, row[2]):
                return
            try:
                self.block(row[3], calls, here)
            except Leave:
                return
            except Next:
                pass
            self.visit(("pass", row[1], calls), here)

    def numbers(self, earlier=()):
        """A dict from the values to the numbers of their symbols, if those of these other doings come first."""
        found = {}
        for position in range(len(self.program.boxes())):
            found[("box", position)] = position
        for doing in [*earlier, self]:
            for result in doing.results:
                found.setdefault(result, len(found))
        return found

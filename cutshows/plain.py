"""Plain ways of cutting, which look at names alone, and cuts by trying one label behind the other."""

from cutshows.checks import check_labels, check_program, check_wish
from cutshows.cuts import check_cut_and_wish, closed_of
from cutshows.rows import read_by
from cutshows.tables import is_right


class Names:
    """What the rows of a program read, write and need by the names in them; it never changes.

    `reach` is a dict from the pointers to the boxes that they can reach, by the coarse or the fine way.
    """

    def __init__(self, program, fine):
        self._program = program
        self._fine = fine
        self._rows = {label: program[label] for label in program.labels()}
        boxes = program.boxes()
        self.reach = {name: boxes for name in program.pointers()}
        if fine:
            self.reach = can_reach(program)

    def all_needed(self):
        """A dict that has all labels of the needs."""
        found = {}
        waiting = [label for label in self._rows if self._word(label) in ("show", "stop")]
        while waiting:
            label = waiting.pop()
            if label not in found:
                found[label] = True
                waiting.extend(self._needed_with(label))
        return found

    def _word(self, label):
        return self._rows[label][0]

    def _needed_with(self, label):
        """The labels that are in the needs if this one is."""
        part = self._program.part_of(label)
        found = self._writers(label) + self._points_for(label) + self._program.around(label)
        if self._word(label) == "loop":
            found = found + [inner for inner in self._jumps("leave", "next") if self._innermost_loop(inner) == label]
        if part:
            backs = [inner for inner in self._jumps("back") if self._program.part_of(inner) == part]
            found = found + self._program.calls_of(part) + backs
        return found

    def _jumps(self, *words):
        return [label for label in self._rows if self._word(label) in words]

    def _innermost_loop(self, label):
        """The label of the innermost loop around a row that stands in one."""
        return [outer for outer in self._program.around(label) if self._word(outer) == "loop"][-1]

    def _meant_boxes(self, operand):
        """The boxes that an operand can mean."""
        return self.reach.get(operand, [operand])

    def _writers(self, label):
        """The labels of the rows that can write what this one reads."""
        read = [box for operand in read_by(self._rows[label]) for box in self._meant_boxes(operand)]
        sets = [row for row in self._rows.values() if row[0] in ("set", "copy")]
        return [row[1] for row in sets if any([box in read for box in self._meant_boxes(row[2])])]

    def _points_for(self, label):
        """The labels of the `point` rows that an operand of this row needs."""
        pointers = [operand for operand in _operands(self._rows[label]) if operand in self.reach]
        points = [row for row in self._rows.values() if row[0] == "point"]
        if self._fine:
            return [row[1] for row in points if row[2] in pointers]
        return [row[1] for row in points] if pointers else []


def can_reach(program):
    """A dict from the pointers to the sorted lists of the boxes that they can reach, by the fine way."""
    check_program(program)
    beginning = program.pointers()
    found = {name: [beginning[name]] for name in beginning}
    rows = [program[label] for label in program.labels()]
    # Each time some pointer can reach one more box, or nothing comes in any more.
    for _ in range(len(beginning) * len(program.boxes())):
        for row in rows:
            if row[0] == "point":
                found[row[2]] = sorted(set(found[row[2]]) | set(found.get(row[3], [row[3]])))
    return found


def needs(program, *, fine=False):
    """The labels of the needs, in text order."""
    check_program(program)
    found = Names(program, fine).all_needed()
    return [label for label in program.labels() if label in found]


def plain_cut(program, *, fine=False):
    """The sorted list of all labels that are not in the needs."""
    kept = needs(program, fine=fine)
    return sorted([label for label in program.labels() if label not in kept])


def pared(program, wish, labels):
    """The sorted list of what is left out, if these labels are tried in their sequence."""
    check_program(program)
    check_wish(wish)
    check_labels(program, labels)
    return pared_from(program, wish, labels, [])


def is_pared(program, labels, wish):
    """Whether the closed cut is right, and with any other label, and what must go with it, is not."""
    check_cut_and_wish(program, labels, wish)
    others = [label for label in program.labels() if label not in labels]
    right = is_right(program, labels, wish)
    # All of them are looked at, as any of them may be too great.
    greater = [is_right(program, closed_of(program, [*labels, label]), wish) for label in others]
    return right and not any(greater)


def pared_from(program, wish, labels, cut):
    """As `pared`, beginning with a closed cut; a label may stand there more than once."""
    for label in labels:
        if label not in cut:
            greater = closed_of(program, [*cut, label])
            if is_right(program, greater, wish):
                cut = greater
    return cut


def _operands(row):
    """The operands of a row, read or written; the pointer that a `point` row moves is none."""
    if row[0] in ("set", "copy"):
        return (row[2], *read_by(row))
    return (row[3],) if row[0] == "point" else read_by(row)

"""Programs: boxes, pointers, main rows and parts."""

from cutshows.basics import MOST_BOXES, is_list, is_name
from cutshows.errors import (
    CallRing, InvalidBoxes, InvalidParts, InvalidPointers, InvalidRows, NotCalled, TooMany, UnknownLabel, UnknownName,
)
from cutshows.plans import Plan
from cutshows.rows import Reader, blocks_of, kept_rows, rows_in, told_row, told_rows

MOST_POINTERS = 2


class Program:
    """A program; it never changes. `plan` has its points and ways."""

    MOST_ROWS = 12

    def __init__(self, boxes, rows=(), *, pointers=None, parts=None):
        _check_boxes(boxes)
        if not is_list(rows):
            raise InvalidRows(None)
        pointers = {} if pointers is None else pointers
        _check_pointers(pointers, boxes)
        parts = {} if parts is None else parts
        _check_parts(parts)
        _check_rows(Reader(boxes, pointers, parts), rows, parts)
        self._boxes = tuple(boxes)
        self._pointers = {name: pointers[name] for name in sorted(pointers)}
        self._main = kept_rows(rows)
        self._parts = {name: kept_rows(parts[name]) for name in sorted(parts)}
        self._note_rows()
        self._check_calls()
        if len(self._rows) > Program.MOST_ROWS:
            raise TooMany("rows", Program.MOST_ROWS)
        self.plan = Plan(self._main, self._parts)

    def boxes(self):
        """The list of the boxes."""
        return list(self._boxes)

    def pointers(self):
        """A dict from the pointers to the boxes that they reach at the beginning."""
        return {name: self._pointers[name] for name in self._pointers}

    def rows(self):
        """The list of the main rows."""
        return told_rows(self._main)

    def parts(self):
        """A dict from the parts to the lists of their rows."""
        return {name: told_rows(self._parts[name]) for name in self._parts}

    def labels(self):
        """All labels, in text order."""
        return list(self._rows)

    def tests(self):
        """The labels of ifs and loops, in text order."""
        return [label for label in self._rows if self._rows[label][0] in ("if", "loop")]

    def around(self, label):
        """The labels of the ifs and loops around a row in its main rows or part, from outside."""
        self._check_label(label)
        return list(self._around[label])

    def within(self, label):
        """The labels of the rows within a row, in text order."""
        self._check_label(label)
        return [row[1] for block in blocks_of(self._rows[label]) for row in rows_in(block)]

    def part_of(self, label):
        """The part of a row, or "" for main rows."""
        self._check_label(label)
        return self._homes[label]

    def calls_of(self, part):
        """The labels of the rows that call a part, in text order."""
        if not isinstance(part, str) or part not in self._parts:
            raise UnknownName(part)
        return [label for label in self._rows if self._rows[label][0] == "call" and self._rows[label][2] == part]

    def parts_from(self, home, left_out):
        """The parts to which calls that are not left out lead, from a part, or from the main rows (""), on."""
        found = {}
        waiting = [home]
        while waiting:
            start = waiting.pop()
            for row in rows_in(self._block(start)):
                if row[0] == "call" and row[1] not in left_out and row[2] not in found:
                    found[row[2]] = True
                    waiting.append(row[2])
        return list(found)

    def first_reached(self):
        """The positions of the boxes that the pointers reach at the beginning, by the pointers' names."""
        return tuple([self._boxes.index(self._pointers[name]) for name in self._pointers])

    def meant(self, operand, reached):
        """The position of the box that an operand means while the pointers reach the boxes at these positions."""
        if operand in self._boxes:
            return self._boxes.index(operand)
        return reached[self.place_of(operand)]

    def place_of(self, pointer):
        """The position of a pointer among all of them."""
        return list(self._pointers).index(pointer)

    def __contains__(self, label):
        return isinstance(label, str) and label in self._rows

    def __getitem__(self, label):
        self._check_label(label)
        return told_row(self._rows[label])

    def __iter__(self):
        raise TypeError("a program is not iterated over")

    def __len__(self):
        return len(self._rows)

    def __eq__(self, other):
        return (
            isinstance(other, Program) and self._boxes == other._boxes and self._pointers == other._pointers
            and self._main == other._main and self._parts == other._parts
        )

    def __repr__(self):
        return f"Program({self.boxes()!r}, {self.rows()!r}, pointers={self.pointers()!r}, parts={self.parts()!r})"

    def _block(self, home):
        return self._parts[home] if home else self._main

    def _check_label(self, label):
        if not isinstance(label, str) or label not in self._rows:
            raise UnknownLabel(label)

    def _note_rows(self):
        """Notes of each label, in text order, its row, its part, and what is around it."""
        self._rows = {}
        self._homes = {}
        self._around = {}
        for home in ["", *self._parts]:
            for row in rows_in(self._block(home)):
                label = row[1]
                self._rows[label] = row
                self._homes[label] = home
                self._around.setdefault(label, ())
                for inner in self.within(label):
                    self._around[inner] = self._around.get(inner, ()) + (label,)

    def _check_calls(self):
        for part in self._parts:
            if part in self.parts_from(part, ()):
                raise CallRing(part)
        called = self.parts_from("", ())
        for part in self._parts:
            if part not in called:
                raise NotCalled(part)


def _check_boxes(boxes):
    if not is_list(boxes) or not 1 <= len(boxes) <= MOST_BOXES:
        raise InvalidBoxes(None)
    for position, box in enumerate(boxes):
        if not is_name(box) or box in boxes[:position]:
            raise InvalidBoxes(position)


def _check_pointers(pointers, boxes):
    if not isinstance(pointers, dict) or len(pointers) > MOST_POINTERS:
        raise InvalidPointers(None)
    if any([not is_name(name) or name in boxes for name in pointers]):
        raise InvalidPointers(None)
    for name in sorted(pointers):
        if not isinstance(pointers[name], str) or pointers[name] not in boxes:
            raise InvalidPointers(name)


def _check_parts(parts):
    if not isinstance(parts, dict) or not all([is_name(name) for name in parts]):
        raise InvalidParts(None)
    for name in sorted(parts):
        if not is_list(parts[name]):
            raise InvalidParts(name)


def _check_rows(reader, rows, parts):
    """Raises the error of the first wrong row; ahead of it stand just those that the reader has seen."""
    right = reader.are_rows(rows, False, False)
    for name in sorted(parts):
        right = right and reader.are_rows(parts[name], False, True)
    if not right:
        raise InvalidRows(len(reader.seen))

"""Rows: what each word has behind it, whether all rows are right, and what stands within them.

A row is KEPT with its reads and blocks as tuples, so that nobody can change it, and TOLD with its blocks as lists.
"""

from cutshows.basics import is_list, is_name

MOST_READS = 3
# What stands in a row behind its word and its label.
SHAPES = {
    "set": ("operand", "reads"),
    "copy": ("operand", "operand"),
    "point": ("pointer", "operand"),
    "show": ("operand",),
    "if": ("reads", "block", "block"),
    "loop": ("reads", "block"),
    "leave": (),
    "next": (),
    "back": (),
    "stop": (),
    "call": ("part",),
}


class Reader:
    """Looks at rows in text order, and knows the names that may stand in them; `seen` are the labels so far."""

    def __init__(self, boxes, pointers, parts, labels=()):
        self.seen = {label: True for label in labels}
        self._names = {
            "operand": [*boxes, *pointers],
            "pointer": list(pointers),
            "part": list(parts),
        }

    def are_rows(self, block, in_loop, in_part):
        """Whether all rows of the block are right; those ahead of the first wrong one are seen."""
        for row in block:
            if not self._is_row(row, in_loop, in_part):
                return False
            self.seen[row[1]] = True
            for inner in blocks_of(row):
                if not self.are_rows(inner, in_loop or row[0] == "loop", in_part):
                    return False
        return True

    def _is_row(self, row, in_loop, in_part):
        """Whether this is a row that can stand there; of its blocks only that they are lists."""
        if not isinstance(row, tuple) or len(row) < 2:
            return False
        word, label = row[0], row[1]
        if not isinstance(word, str) or word not in SHAPES:
            return False
        if not is_name(label) or label in self.seen:
            return False
        if (word in ("leave", "next") and not in_loop) or (word == "back" and not in_part):
            return False
        shape = SHAPES[word]
        if len(row) != len(shape) + 2:
            return False
        return all([self._fits(kind, value) for kind, value in zip(shape, row[2:])])

    def _fits(self, kind, value):
        if kind == "block":
            return is_list(value)
        if kind == "reads":
            return is_list(value) and len(value) <= MOST_READS and all([self._fits("operand", read) for read in value])
        return isinstance(value, str) and value in self._names[kind]


def kept_rows(block):
    """The same rows, as nobody can change them."""
    return tuple([kept_row(row) for row in block])


def kept_row(row):
    """The same row, as nobody can change it."""
    shape = SHAPES[row[0]]
    return row[:2] + tuple([_kept(kind, value) for kind, value in zip(shape, row[2:])])


def _kept(kind, value):
    if kind == "block":
        return kept_rows(value)
    return tuple(value) if kind == "reads" else value


def told_rows(block):
    """New lists of kept rows, as they are told."""
    return [told_row(row) for row in block]


def told_row(row):
    """A kept row, as it is told, its blocks being new lists."""
    shape = SHAPES[row[0]]
    return row[:2] + tuple([told_rows(value) if kind == "block" else value for kind, value in zip(shape, row[2:])])


def blocks_of(row):
    """The blocks in a row, those of an if in their sequence."""
    if row[0] in ("if", "loop"):
        return list(row[3:])
    return []


def rows_in(block):
    """All rows of a block and of the blocks in it, in text order."""
    found = []
    for row in block:
        found.append(row)
        for inner in blocks_of(row):
            found.extend(rows_in(inner))
    return found


def read_by(row):
    """The operands whose values a kept row reads, in their sequence."""
    word = row[0]
    if word in ("if", "loop"):
        return row[2]
    if word in ("copy", "show"):
        return (row[-1],)
    return row[3] if word == "set" else ()


def rows_without(block, labels):
    """The kept rows of a block without those with these labels, in its blocks too."""
    return tuple([_row_without(row, labels) for row in block if row[1] not in labels])


def _row_without(row, labels):
    if row[0] not in ("if", "loop"):
        return row
    return row[:3] + tuple([rows_without(inner, labels) for inner in row[3:]])

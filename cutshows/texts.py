"""Texts of programs: written, read, and the first line that cannot stand where it does."""

from cutshows.basics import MOST_BOXES, is_name
from cutshows.checks import check_program
from cutshows.errors import InvalidText
from cutshows.programs import MOST_POINTERS, Program
from cutshows.rows import SHAPES, Reader, blocks_of

INDENT = "  "
# What stands in a text in this sequence: what was begun decides what may come next.
IN_BOXES = 0
IN_POINTERS = 1
IN_ROWS = 2
IN_PARTS = 3


class Reading:
    """Reads the lines of a text one behind the other, as long as a text of a program can begin with them."""

    def __init__(self):
        self._stage = IN_BOXES
        self._boxes = []
        self._pointers = {}
        self._rows = []
        self._parts = {}
        self._labels = []
        # The last row at each depth, and the block into which a row at each depth goes.
        self._last = []
        self._blocks = [self._rows]
        # The labels of the ifs that have an else.
        self._halves = []
        self._behind_else = False

    def takes(self, line):
        """Whether this can be the next line; if it is, it is read."""
        words = line.split(" ")
        if words[0] == "box":
            return self._takes_box(words)
        if words[0] == "pointer":
            return self._takes_pointer(words)
        if words[0] == "part":
            return self._takes_part(words)
        inner = line.lstrip(" ")
        depth = (len(line) - len(inner)) // len(INDENT)
        # Rows stand behind at least one box, and an odd number of spaces is none of any depth.
        if not self._boxes or INDENT * depth + inner != line:
            return False
        if inner == "else":
            return self._takes_else(depth)
        return self._takes_row(inner.split(" "), depth)

    def is_whole(self):
        """Whether nothing must come any more."""
        return len(self._boxes) > 0 and not self._behind_else

    def made(self):
        """The program that was read."""
        return Program(self._boxes, self._rows, pointers=self._pointers, parts=self._parts)

    def _takes_box(self, words):
        if self._stage > IN_BOXES or len(self._boxes) == MOST_BOXES:
            return False
        if len(words) != 2 or not is_name(words[1]) or words[1] in self._boxes:
            return False
        self._boxes.append(words[1])
        return True

    def _takes_pointer(self, words):
        if self._stage > IN_POINTERS or len(self._pointers) == MOST_POINTERS:
            return False
        if len(words) != 3 or not is_name(words[1]) or words[1] in self._boxes or words[2] not in self._boxes:
            return False
        if any([name >= words[1] for name in self._pointers]):
            return False
        self._stage = IN_POINTERS
        self._pointers[words[1]] = words[2]
        return True

    def _takes_part(self, words):
        if not self._boxes or self._behind_else:
            return False
        if len(words) != 2 or not is_name(words[1]) or any([name >= words[1] for name in self._parts]):
            return False
        self._stage = IN_PARTS
        self._last = []
        self._blocks = [[]]
        self._parts[words[1]] = self._blocks[0]
        return True

    def _takes_else(self, depth):
        if self._behind_else or depth >= len(self._last):
            return False
        row = self._last[depth]
        if row[0] != "if" or row[1] in self._halves:
            return False
        self._halves.append(row[1])
        self._behind_else = True
        self._last = self._last[:depth + 1]
        self._blocks = self._blocks[:depth + 1] + [row[4]]
        return True

    def _takes_row(self, words, depth):
        if depth >= len(self._blocks) or (self._behind_else and depth < len(self._last)):
            return False
        around = self._last[:depth]
        row = _row_of(words)
        # It does not matter here whether a part is there, so each name in the line is taken for one.
        reader = Reader(self._boxes, self._pointers, [name for name in words if is_name(name)], self._labels)
        if not reader.are_rows([row], any([outer[0] == "loop" for outer in around]), self._stage == IN_PARTS):
            return False
        self._stage = max(self._stage, IN_ROWS)
        self._behind_else = False
        self._labels.append(row[1])
        self._blocks[depth].append(row)
        self._last = around + [row]
        self._blocks = self._blocks[:depth + 1] + blocks_of(row)[:1]
        return True


def text_of(program):
    """The text of a program."""
    check_program(program)
    lines = [f"box {box}" for box in program.boxes()]
    reached = program.pointers()
    lines.extend([f"pointer {name} {reached[name]}" for name in reached])
    lines.extend(_lines_of(program.rows(), ""))
    parts = program.parts()
    for name in parts:
        lines.append(f"part {name}")
        lines.extend(_lines_of(parts[name], ""))
    return "".join([f"{line}\n" for line in lines])


def read_program(text):
    """The program of a text."""
    wrong, reading = _read(text)
    if wrong is not None:
        raise InvalidText(wrong)
    return reading.made()


def wrong_line(text):
    """The number of the wrong line of a text, or None."""
    return _read(text)[0]


def _read(text):
    """The number of the wrong line, or None, and what was read ahead of it."""
    if not isinstance(text, str):
        raise InvalidText(None)
    # Behind the last line feed there is nothing, or a line that has none.
    *lines, rest = text.split("\n")
    reading = Reading()
    for number, line in enumerate(lines, start=1):
        if not reading.takes(line):
            return (number, reading)
    if rest or not reading.is_whole():
        return (len(lines) + 1, reading)
    return (None, reading)


def _row_of(words):
    """The row that a line with these words tells; what is no row, if it tells none."""
    if len(words) < 2 or not words[0].endswith(":") or words[1] not in SHAPES:
        return ()
    word, told = words[1], words[2:]
    row = (word, words[0][:-1])
    for kind in SHAPES[word]:
        if kind == "block":
            row += ([],)
        elif kind == "reads":
            row += (told,)
            told = []
        else:
            row += (told[0] if told else "",)
            told = told[1:]
    # What is left over belongs to nothing.
    return row if not told else ()


def _lines_of(block, indent):
    """The lines of a block, each with these spaces in front."""
    lines = []
    for row in block:
        lines.append(indent + " ".join(_words_of(row)))
        blocks = blocks_of(row)
        lines.extend([line for inner in blocks[:1] for line in _lines_of(inner, indent + INDENT)])
        for inner in blocks[1:]:
            if inner:
                lines.append(f"{indent}else")
                lines.extend(_lines_of(inner, indent + INDENT))
    return lines


def _words_of(row):
    """The words of the line of a row."""
    words = [f"{row[1]}:", row[0]]
    for kind, value in zip(SHAPES[row[0]], row[2:]):
        if kind == "reads":
            words.extend(value)
        elif kind != "block":
            words.append(value)
    return words

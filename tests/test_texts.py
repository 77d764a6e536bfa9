"""Texts: how programs are written, what is read, and which line is wrong."""

import unittest

from cutshows import texts
from cutshows.errors import (
    CallRing, CutError, InvalidProgram, InvalidRows, InvalidText, LimitError, NotCalled, StateError,
)
from cutshows.programs import Program
from cutshows.texts import read_program, text_of, wrong_line
from tests.common import OTHERS, Case, Maker, samples, small

FULL = """\
box x
box a
pointer p x
pointer q a
k: loop x p
  i: if
    l: leave
  else
    n: next
  s: set p x x q
  t: show q
c: call e
d: call f
part e
b: back
m: point q p
part f
h: stop
y: copy a x
"""


def full():
    return Program(["x", "a"], [
        ("loop", "k", ["x", "p"], [
            ("if", "i", [], [("leave", "l")], [("next", "n")]),
            ("set", "s", "p", ["x", "x", "q"]),
            ("show", "t", "q"),
        ]),
        ("call", "c", "e"), ("call", "d", "f"),
    ], pointers={"q": "a", "p": "x"}, parts={
        "f": [("stop", "h"), ("copy", "y", "a", "x")], "e": [("back", "b"), ("point", "m", "q", "p")],
    })


class Look:
    """Whether a text is one of a program: read loosely, written anew, and compared."""

    def __init__(self, text):
        self.lines = [((len(line) - len(line.lstrip())) // 2, line.split()) for line in text.split("\n")[:-1]]
        self.at = 0
        try:
            self.read()
            self.right = self.written() == text and self.at == len(self.lines)
        except (IndexError, ValueError, TypeError):
            self.right = False
        self.right = self.right and self.is_program()

    def here(self):
        return self.lines[self.at] if self.at < len(self.lines) else (0, ["nothing"])

    def read(self):
        self.boxes, self.pointers, self.parts = [], [], []
        while self.here()[1][0] == "box":
            self.boxes.append(self.here()[1][1])
            self.at += 1
        while self.here()[1][0] == "pointer":
            self.pointers.append(tuple(self.here()[1][1:]))
            self.at += 1
        self.rows = self.block(0)
        while self.here()[1][0] == "part":
            name = self.here()[1][1]
            self.at += 1
            self.parts.append((name, self.block(0)))

    def block(self, depth):
        rows = []
        while self.here()[0] == depth and self.here()[1][0].endswith(":"):
            rows.append(self.row(depth))
        return rows

    def row(self, depth):
        label, word, *told = self.here()[1]
        self.at += 1
        label = label[:-1]
        if word == "loop":
            return (word, label, told, self.block(depth + 1))
        if word == "if":
            first, second = self.block(depth + 1), []
            if self.here() == (depth, ["else"]):
                self.at += 1
                second = self.block(depth + 1)
            return (word, label, told, first, second)
        return (word, label, told[0], told[1:]) if word == "set" else (word, label, *told)

    def written(self):
        lines = [f"box {box}" for box in self.boxes] + [f"pointer {name} {box}" for name, box in self.pointers]
        lines += self.lines_of(self.rows, "")
        for name, rows in self.parts:
            lines += [f"part {name}", *self.lines_of(rows, "")]
        return "".join(line + "\n" for line in lines)

    def lines_of(self, rows, indent):
        found = []
        for word, label, *told in rows:
            reads = {"set": told[:1] + told[-1] if word == "set" else [], "if": told[:1], "loop": told[:1]}
            words = reads["set"] if word == "set" else told[0] if word in ("if", "loop") else told
            found.append(indent + " ".join([label + ":", word, *words]))
            if word in ("if", "loop"):
                found += self.lines_of(told[1], indent + "  ")
            if word == "if" and told[2]:
                found += [indent + "else", *self.lines_of(told[2], indent + "  ")]
        return found

    def is_program(self):
        """Whether there is such a program, but for limits and calls."""
        names = [name for name, _ in self.parts]
        pointers = [name for name, _ in self.pointers]
        if names != sorted(set(names)) or pointers != sorted(set(pointers)):
            return False
        try:
            rows = [self.without_calls(row) for row in self.rows]
            parts = {name: [self.without_calls(row) for row in rows] for name, rows in self.parts}
            called = [("call", "zzzz" + "abcdefghij"[number], name) for number, name in enumerate(names)]
            Program(self.boxes, rows + called, pointers=dict(self.pointers), parts=parts)
        except (CutError, ValueError, IndexError):
            return False
        except LimitError:
            pass
        return True

    def without_calls(self, row):
        """The same row, or one that stops in the place of each call."""
        if row[0] == "call":
            Program(["a"], [("call", row[1], row[2])], parts={row[2]: []})
            return ("stop", *row[1:2], *row[3:])
        return tuple([self.without_calls(inner) for inner in told] if place > 2 and row[0] in ("if", "loop") else told
                     for place, told in enumerate(row))


def look_at_lines(text):
    """The wrong line, by trying whether something can come behind the lines up to each one."""
    *lines, rest = text.split("\n")
    for number in range(1, len(lines) + 1):
        begun = "".join(line + "\n" for line in lines[:number])
        more = [""] + ["  " * depth + "zzzzz: stop\n" for depth in range(8)]
        if not any(Look(begun + behind).right for behind in more):
            return number
    return len(lines) + 1 if rest or not Look(text).right else None


class Examples(Case):
    def test_of_the_document(self):
        self.assertEqual(text_of(small()), "box a\nbox b\nl: loop a\n  s: set a a\nw: show b\n")


class Interface(Case):
    def test_each_is_defined_in_its_file(self):
        self.defined(texts, {text_of: "program", read_program: "text", wrong_line: "text"})

    def test_parameters_by_name(self):
        self.assertEqual(read_program(text=text_of(program=small())), small())
        self.assertIsNone(wrong_line(text=FULL))


class Written(Case):
    def test_each_row(self):
        self.assertEqual(text_of(full()), FULL)

    def test_nothing_but_boxes(self):
        self.assertEqual(text_of(Program(["b"])), "box b\n")
        self.assertEqual(text_of(Program(["b", "c", "a"], pointers={"q": "c", "p": "a"})),
                         "box b\nbox c\nbox a\npointer p a\npointer q c\n")

    def test_empty_blocks_and_else(self):
        for first, second, expected in (
            ([], [], "i: if\n"), ([("stop", "x")], [], "i: if\n  x: stop\n"),
            ([], [("stop", "x")], "i: if\nelse\n  x: stop\n"),
            ([("stop", "x")], [("stop", "y")], "i: if\n  x: stop\nelse\n  y: stop\n"),
        ):
            program = Program(["a"], [("if", "i", [], first, second)])
            self.assertEqual(text_of(program), "box a\n" + expected)
            inner = "".join("  " + line + "\n" for line in expected.split("\n")[:-1])
            program = Program(["a"], [("loop", "l", ["a"], program.rows())])
            self.assertEqual(text_of(program), "box a\nl: loop a\n" + inner)
            self.assertEqual(read_program(text_of(program)), program)

    def test_parts(self):
        program = Program(["a"], [("call", "c", "q"), ("call", "d", "p")], parts={"q": [], "p": [("back", "b")]})
        self.assertEqual(text_of(program), "box a\nc: call q\nd: call p\npart p\nb: back\npart q\n")

    def test_names_that_are_words(self):
        program = Program(["box", "part"], [
            ("set", "else", "box", ["part", "pointer"]), ("call", "box", "else"), ("show", "pointer", "box"),
        ], pointers={"pointer": "part"}, parts={"else": [("stop", "part")]})
        self.assertEqual(text_of(program), "box box\nbox part\npointer pointer part\nelse: set box part pointer\n"
                                           "box: call else\npointer: show box\npart else\npart: stop\n")
        self.assertEqual(read_program(text_of(program)), program)

    def test_no_program(self):
        self.wrong_programs(text_of)
        self.raised(InvalidProgram, {"value": FULL}, text_of, FULL)


class Read(Case):
    def test_what_was_written(self):
        for program in [full(), *samples().values(), *Maker(71).programs(300)]:
            text = text_of(program)
            self.assertIs(text.__class__, str)
            self.assertEqual(read_program(text), program)
            self.assertEqual(repr(read_program(text)), repr(program))
            self.assertIsNone(wrong_line(text))
            self.assertTrue(Look(text).right)

    def test_no_limits_for_lines(self):
        """What Program does not take is no wrong line, and is raised as its error."""
        shows = "".join(f"x{letter}: show a\n" for letter in "abcdefghijklm")
        ring = "box a\nc: call p\npart p\nd: call q\npart q\ne: call p\n"
        for text, kind, attributes in (
            ("box a\nc: call q\n", InvalidRows, {"position": 0}),
            ("box a\nl: loop\n  x: stop\n  c: call q\n" + shows, InvalidRows, {"position": 2}),
            ("box a\nc: call p\npart p\nd: call q\n", InvalidRows, {"position": 1}),
            (ring, CallRing, {"part": "p"}),
            (ring + "part r\n", CallRing, {"part": "p"}),
            ("box a\npart p\n", NotCalled, {"part": "p"}),
            ("box a\npart p\nc: call q\npart q\n" + shows, NotCalled, {"part": "p"}),
            ("box a\npart p\nc: call p\n", CallRing, {"part": "p"}),
        ):
            self.assertIsNone(wrong_line(text))
            self.assertTrue(Look(text).right)
            self.raised(kind, attributes, read_program, text)

    def test_too_many(self):
        shows = "".join(f"x{letter}: show a\n" for letter in "abcdefghijklm")
        calls = "box a\nc: call p\npart p\nd: call q\npart q\ne: call r\npart r\nw: show a\n"
        loops = "box a\nk: loop\n  l: loop\n    m: loop\n"
        points = "box a\n" + "".join(f"{one}: call p\n" for one in "abcdef") + "part p\n" + "".join(
            f"x{one}: stop\n" for one in "abcdef")
        self.assertIsNone(wrong_line("box a\n" + shows))
        self.too_many("rows", 12, read_program, "box a\n" + shows)
        self.too_many("rows", 12, read_program, loops + shows)
        for text, what, limit in ((calls, "calls", 2), (loops, "loops", 2), (points, "points", 40)):
            self.assertIsNone(wrong_line(text))
            self.too_many(what, limit, read_program, text)
        self.raised(CallRing, {"part": "r"}, read_program, "box a\n" + shows + "c: call r\npart r\nd: call r\n")


class Wrong(Case):
    def wrong(self, text, line):
        self.assertEqual(wrong_line(text), line, text)
        self.assertEqual(look_at_lines(text), line, text)
        if line is None:
            self.assertEqual(text_of(read_program(text)), text)
        else:
            self.raised(InvalidText, {"line": line}, read_program, text)

    def exchanged(self, number, *lines):
        """The full text with these lines in the place of the one with the number."""
        told = FULL.split("\n")
        return "\n".join(told[:number - 1] + list(lines) + told[number:])

    def test_empty(self):
        self.wrong("", 1)
        for many in range(1, 4):
            self.wrong("\n" * many, 1)
        self.wrong("\nbox a\n", 1)

    def test_no_boxes(self):
        for line in ("pointer p a", "w: show a", "x: stop", "part p", "else", "box", "box:", "a", " ", "  x: stop"):
            self.wrong(line + "\n", 1)
            self.wrong(line + "\nbox a\n", 1)

    def test_no_line_feed(self):
        for many in range(1, len(FULL)):
            text = FULL[:many]
            if not text.endswith("\n"):
                whole = text.count("\n")
                found = wrong_line(text)
                self.assertEqual(found, whole + 1)
                self.raised(InvalidText, {"line": found}, read_program, text)
        self.wrong("box a", 1)
        self.wrong("box a\nx: stop", 2)
        self.wrong("box a\nx: stop\n ", 3)
        # An earlier line that is wrong is told.
        self.wrong("box a\nx: stoop\ny: stop", 2)

    def test_empty_lines(self):
        for number in range(1, FULL.count("\n") + 2):
            told = FULL.split("\n")
            self.wrong("\n".join(told[:number - 1] + [""] + told[number - 1:]), number)
        self.wrong("box a\n  \n", 2)

    def test_blanks(self):
        told = FULL.split("\n")[:-1]
        for number, line in enumerate(told, start=1):
            self.wrong(self.exchanged(number, " " + line), number)
            self.wrong(self.exchanged(number, line + " "), number)
            inner = line.lstrip()
            indent = line[:len(line) - len(inner)]
            for place in range(len(inner)):
                if inner[place] == " ":
                    self.wrong(self.exchanged(number, indent + inner[:place] + " " + inner[place:]), number)
                    self.wrong(self.exchanged(number, indent + inner[:place] + inner[place + 1:]), number)
            if indent:
                self.wrong(self.exchanged(number, line[1:]), number)

    def test_great_letters(self):
        for number, line in enumerate(FULL.split("\n")[:-1], start=1):
            for place in range(len(line)):
                if line[place].isalpha():
                    self.wrong(self.exchanged(number, line[:place] + line[place].upper() + line[place + 1:]), number)

    def test_lines_in_another_sequence(self):
        told = FULL.split("\n")[:-1]
        for number in range(len(told) - 1):
            for other in range(number + 1, len(told)):
                lines = list(told)
                lines[number], lines[other] = lines[other], lines[number]
                text = "\n".join(lines) + "\n"
                self.assertEqual(wrong_line(text), look_at_lines(text), text)

    def test_lines_left_out_and_twice(self):
        told = FULL.split("\n")[:-1]
        for number in range(len(told)):
            text = "\n".join(told[:number] + told[number + 1:]) + "\n"
            self.assertEqual(wrong_line(text), look_at_lines(text), text)
            self.wrong("\n".join(told[:number + 1] + told[number:]) + "\n", number + 2)

    def test_boxes(self):
        self.wrong("box a\nbox b\nbox c\n", None)
        self.wrong("box a\nbox b\nbox c\nbox d\n", 4)
        self.wrong("box a\nbox a\n", 2)
        for line in ("box", "box ", "box A", "box a1", "box abcdefghi", "box b c", "box b:", "Box b", "boxes b", " box b"):
            self.wrong(f"box a\n{line}\n", 2)
        self.wrong("box abcdefgh\n", None)
        for line in ("pointer p a", "x: stop", "part p"):
            self.wrong(f"box a\n{line}\nbox b\n", 3)

    def test_pointers(self):
        self.wrong("box a\npointer p a\npointer q a\n", None)
        self.wrong("box a\npointer p a\npointer q a\npointer r a\n", 4)
        self.wrong("box a\npointer q a\npointer p a\n", 3)
        self.wrong("box a\npointer p a\npointer p a\n", 3)
        for line in ("pointer a a", "pointer p b", "pointer p p", "pointer p", "pointer", "pointer p a a", "pointer P a",
                     "pointer p A", "pointer  a", "pointer p ", "pointers p a", "pointer abcdefghi a"):
            self.wrong(f"box a\n{line}\n", 2)
        for line in ("x: stop", "part p"):
            self.wrong(f"box a\n{line}\npointer p a\n", 3)

    def test_parts(self):
        self.assertIsNone(wrong_line("box a\npart p\nx: stop\npart q\n"))
        for line in ("part p", "part o", "part", "part ", "part Q", "part q r", "part q1", "  part q", "parts q", "part q:",
                     "part abcdefghi"):
            self.assertEqual(wrong_line(f"box a\npart p\n{line}\n"), 3)
            self.assertEqual(look_at_lines(f"box a\npart p\n{line}\n"), 3)
        # Behind a line for a part nothing stands deeper.
        self.assertEqual(wrong_line("box a\nl: loop\npart p\n  x: stop\n"), 4)

    def test_rows(self):
        for line in ("x: stop x", "xy stop", "xy; stop", "xy copy a b", "x:stop", "x : stop", "x", "x:", "x: ", "x: halt", ": stop", "X: stop", "x1: stop",
                     "abcdefghi: stop", "stop", "x: Stop", "x:: stop", "x: stop:", "stop x", "x: set", "x: set a b c a b",
                     "x: set c", "x: set a c", "x: copy a", "x: copy a b a", "x: copy a c", "x: copy c a", "x: point a b",
                     "x: point p", "x: point p c", "x: point p a b", "x: show", "x: show c", "x: show a b", "x: if c",
                     "x: if a b p a", "x: loop c", "x: loop a a a a", "x: call", "x: call Q", "x: call q r", "x: leave",
                     "x: next", "x: back", "x: leave a", "x: call q1", "x: set a b c", "x: row", "x: end"):
            self.wrong(f"box a\nbox b\npointer p a\n{line}\n", 4)
        for line in ("x: stop", "x: set p", "x: set a b p a", "x: copy p p", "x: point p p", "x: point p b", "x: show p",
                     "x: if a b p", "x: if", "x: loop", "x: loop p p p", "abcdefgh: stop"):
            self.wrong(f"box a\nbox b\npointer p a\n{line}\n", None)

    def test_labels_twice(self):
        for before in ("x: stop\n", "l: loop\n  x: stop\n", "i: if\nelse\n  x: stop\n", "x: if\n", "part p\nx: stop\n"):
            text = f"box a\n{before}x: stop\n"
            self.wrong(text, text.count("\n"))
        text = "box a\nx: loop\n  x: stop\n"
        self.wrong(text, 3)

    def test_depths(self):
        self.wrong("box a\n  x: stop\n", 2)
        self.wrong("box a\nx: stop\n  y: stop\n", 3)
        self.wrong("box a\nl: loop\n    y: stop\n", 3)
        self.wrong("box a\nl: loop\n   y: stop\n", 3)
        self.wrong("box a\nl: loop\n y: stop\n", 3)
        self.wrong("box a\nl: loop\n  y: stop\n    z: stop\n", 4)
        self.wrong("box a\nl: loop\n  i: if\n    y: stop\n  z: stop\nw: stop\n  v: stop\n", 7)
        self.wrong("box a\nl: loop\n  i: if\n    y: stop\nw: stop\n", None)
        self.wrong("box a\nl: loop\n  i: if\n    y: stop\nw: stop\n    v: stop\n", 6)
        self.wrong("box a\nl: loop\nx: stop\n  y: stop\n", 4)

    def test_else(self):
        self.wrong("box a\ni: if\nelse\n  x: stop\n", None)
        self.wrong("box a\ni: if\n  y: stop\nelse\n  x: stop\nz: stop\n", None)
        self.wrong("box a\nelse\n", 2)
        self.wrong("box a\nx: stop\nelse\n", 3)
        self.wrong("box a\nl: loop\nelse\n", 3)
        self.wrong("box a\nl: loop\n  x: stop\nelse\n", 4)
        self.wrong("box a\ni: if\n  else\n", 3)
        self.wrong("box a\ni: if\n else\n", 3)
        self.wrong("box a\ni: if\nelse:\n", 3)
        self.wrong("box a\ni: if\nelse x\n", 3)
        self.wrong("box a\ni: if\nx: stop\nelse\n", 4)
        self.wrong("box a\nl: loop\n  i: if\nelse\n", 4)
        self.wrong("box a\nl: loop\n  i: if\n  else\n    x: stop\n", None)
        # It closes blocks within the first one.
        self.wrong("box a\ni: if\n  j: if\n    x: stop\nelse\n  y: stop\n", None)
        self.wrong("box a\ni: if\n  j: if\n    x: stop\n  else\n    y: stop\nelse\n  z: stop\n", None)

    def test_else_twice(self):
        self.wrong("box a\ni: if\nelse\n  x: stop\nelse\n", 5)
        self.wrong("box a\ni: if\nelse\n  j: if\n  else\n    x: stop\n  else\n", 7)
        self.wrong("box a\ni: if\nelse\nelse\n", 4)
        self.wrong("box a\ni: if\n  j: if\n  else\nelse\n", 5)
        self.wrong("box a\ni: if\nelse\n  j: if\nelse\n", 5)

    def test_nothing_behind_else(self):
        self.wrong("box a\ni: if\nelse\n", 4)
        self.wrong("box a\ni: if\nelse", 3)
        self.wrong("box a\ni: if\nelse\nx: stop\n", 4)
        self.wrong("box a\ni: if\nelse\n    x: stop\n", 4)
        self.wrong("box a\ni: if\nelse\npart p\n", 4)
        self.wrong("box a\nl: loop\n  i: if\n  else\n  x: stop\n", 5)
        self.wrong("box a\nl: loop\n  i: if\n  else\n", 5)

    def test_jumps(self):
        for word in ("leave", "next"):
            self.wrong(f"box a\nl: loop\n  x: {word}\n", None)
            self.wrong(f"box a\nl: loop\n  i: if\n  else\n    x: {word}\n", None)
            self.wrong(f"box a\nl: loop\nx: {word}\n", 3)
            self.wrong(f"box a\ni: if\n  x: {word}\n", 3)
            self.wrong(f"box a\nl: loop\n  y: stop\ni: if\n  x: {word}\n", 5)
            self.wrong(f"box a\nl: loop\n  c: call p\npart p\nx: {word}\n", 5)
        self.wrong("box a\nc: call p\npart p\nx: back\n", None)
        self.wrong("box a\nc: call p\npart p\nl: loop\n  x: back\n", None)
        self.wrong("box a\nl: loop\n  x: back\n", 3)

    def test_texts_that_are_spoilt(self):
        """Against a second look, for texts of made programs with a line or a sign put in, taken out or exchanged."""
        maker = Maker(72)
        found = {}
        for program in maker.programs(400):
            told = text_of(program)
            for _ in range(3):
                text = self.spoilt(maker.random, told)
                expected = look_at_lines(text)
                self.assertEqual(wrong_line(text), expected, text)
                found[expected] = found.get(expected, 0) + 1
                self.reads(text, expected)
        self.assertGreater(found[None], 50)
        self.assertGreater(len(found), 10)

    def reads(self, text, wrong):
        if wrong is not None:
            self.raised(InvalidText, {"line": wrong}, read_program, text)
            return
        try:
            self.assertEqual(text_of(read_program(text)), text)
        except (InvalidRows, StateError, LimitError):
            pass

    def spoilt(self, random, text):
        lines = text.split("\n")[:-1]
        at, other = random.randrange(len(lines)), random.randrange(len(lines))
        words = lines[at].split(" ")
        random.shuffle(words)
        return "".join(line + "\n" for line in random.choice([
            lines[:at] + lines[at + 1:],
            lines[:at] + [lines[other]] + lines[at:],
            lines[:at] + [lines[other]] + lines[at + 1:],
            lines[:at] + ["  " + lines[at]] + lines[at + 1:],
            lines[:at] + [lines[at][2:]] + lines[at + 1:],
            lines[:at] + ["  " * random.randrange(3) + "else"] + lines[at:],
            lines[:at] + ["  " * random.randrange(3) + "zz: stop"] + lines[at:],
            lines[:at] + ["  " * random.randrange(3) + "zz: leave"] + lines[at:],
            lines[:at] + [lines[at] + " a"] + lines[at + 1:],
            lines[:at] + [" ".join(words)] + lines[at + 1:],
            lines[:at] + [lines[at] + " "] + lines[at + 1:],
            lines[:at] + ["part t"] + lines[at:],
        ]))

    def test_no_strings(self):
        for value in [*[other for other in OTHERS if not isinstance(other, str)], 0, [], (), [FULL], (FULL,), b"box a\n",
                      small(), FULL.split("\n")]:
            self.raised(InvalidText, {"line": None}, read_program, value)
            self.raised(InvalidText, {"line": None}, wrong_line, value)


if __name__ == "__main__":
    unittest.main()

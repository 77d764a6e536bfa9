"""What several tests share: a look at errors, values of all kinds, and programs."""

import doctest
import inspect
import itertools
import random
import unittest

from cutshows.errors import (
    CutError, InvalidLabels, InvalidPoint, InvalidProgram, InvalidVow, InvalidWish, LimitError, NotClosed, StateError,
    TooMany, UnknownLabel,
)
from cutshows.programs import Program

WORDS = ("shows", "no more", "ends")


class Unwilling:
    """A value that can be neither shown, compared nor counted."""

    def __repr__(self):
        raise OSError

    __str__ = __bool__ = __len__ = __iter__ = __repr__

    def __eq__(self, other):
        raise OSError

    __hash__ = None


# Values of many kinds, none of which is a NAME, a COUNT, a list or a tuple of anything, or an object of the package.
OTHERS = [None, True, False, -1, "", "A", "a b", "a1", "abcdefghi", b"a", {}, {"a": 1}, {1}, object(), int, Unwilling()]


class Case(unittest.TestCase):
    def raised(self, kind, attributes, action, *told, **more):
        """The error is of just this kind, and these are its attributes."""
        with self.assertRaises(kind) as caught:
            action(*told, **more)
        self.assertIs(caught.exception.__class__, kind)
        found = vars(caught.exception)
        self.assertEqual(list(found), list(attributes))
        for name, value in attributes.items():
            self.assertIs(found[name].__class__, value.__class__)
            if found[name] is not value:
                self.assertEqual(found[name], value)

    def defined(self, file, parameters):
        """These functions stand in the file itself, with these parameters, a star in front of those told by name."""
        for function, names in parameters.items():
            self.assertEqual(function.__module__, file.__name__)
            told = inspect.signature(function).parameters.values()
            self.assertEqual([("*" if one.kind is one.KEYWORD_ONLY else "") + one.name for one in told], names.split())

    def wrong_programs(self, action):
        """The action raises the error of each value that is no program, and does nothing else with it."""
        for value in [*OTHERS, 1, "small", [], (), small, Program]:
            self.raised(InvalidProgram, {"value": value}, action, value)

    def wrong_labels(self, action):
        """The action raises the error of lists of labels of the small program that are none."""
        for value in [*OTHERS, 1, "s", small()]:
            self.raised(InvalidLabels, {"position": None}, action, value)
        for value in [*OTHERS, 0, "z", "a", "ls", ["w"], ("w",)]:
            self.raised(InvalidLabels, {"position": 0}, action, [value, value])
            self.raised(InvalidLabels, {"position": 1}, action, ("l", value, "l"))
        self.raised(InvalidLabels, {"position": 1}, action, ["l", "l"])
        self.raised(InvalidLabels, {"position": 2}, action, ("s", "w", "s", 0))

    def not_closed(self, action):
        """The action raises the error of cuts of the small program that are not closed."""
        for labels in (["l"], ("w", "l"), ["l", "w"]):
            self.raised(NotClosed, {"label": "s"}, action, labels)

    def wrong_label(self, action):
        """The action raises the error of what is no label of the small program."""
        for value in [*OTHERS, 0, "z", "b", "ls", ["s"], ("s",), small()]:
            self.raised(UnknownLabel, {"value": value}, action, value)

    def wrong_points(self, action):
        """The action raises the error of what is no point of the small program."""
        for value in [*OTHERS, "0", 5, 999999999, [0], (0,), ("row", "s", ()), small()]:
            self.raised(InvalidPoint, {"value": value}, action, value)

    def wrong_vows(self, action):
        """The action raises the error of what is no vow."""
        for value in [*OTHERS, 0, "show", "Ends", "no  more", "ends ", ["shows"], ("shows",), WORDS, small()]:
            self.raised(InvalidVow, {"value": value}, action, value)

    def wrong_wishes(self, action):
        """The action raises the error of what is no wish."""
        for value in [*OTHERS, 0, "shows", [], (), small()]:
            self.raised(InvalidWish, {"position": None}, action, value)
        for value in [*OTHERS, 0, "show", "Ends", "no  more", ["shows"], ("shows",)]:
            self.raised(InvalidWish, {"position": 0}, action, (value, value))
            self.raised(InvalidWish, {"position": 1}, action, ["ends", value, "ends"])
        self.raised(InvalidWish, {"position": 1}, action, ["ends", "ends"])
        self.raised(InvalidWish, {"position": 2}, action, ("no more", "ends", "no more", None))
        self.raised(InvalidWish, {"position": 3}, action, [*WORDS, "shows"])

    def too_many(self, what, limit, action, *told, **more):
        self.raised(TooMany, {"what": what, "limit": limit}, action, *told, **more)

    def word_for_word(self, text, many, name):
        """A text of examples shows just what stands there."""
        example = doctest.DocTestParser().get_doctest(text, {}, name, None, 0)
        self.assertEqual(len(example.examples), many)
        shown = []
        result = doctest.DocTestRunner(verbose=False).run(example, out=shown.append)
        self.assertEqual(result.failed, 0, "".join(shown))


def small():
    """The program of the document's examples."""
    return Program(["a", "b"], [("loop", "l", ["a"], [("set", "s", "a", ["a"])]), ("show", "w", "b")])


def wishes():
    """All wishes, in each sequence of their vows."""
    return [list(vows) for many in (1, 2, 3) for vows in itertools.permutations(WORDS, many)]


def great_rows():
    return [("loop", "l", ["b"], [
        ("if", "b", ["a"], [("point", "c", "q", "p")], []),
        ("if", "d", ["a"], [("copy", "e", "q", "p")], [("set", "f", "p", ["a"])]),
        ("if", "g", ["a"], [("point", "h", "p", "b")], []),
    ])]


def great():
    """A program of eight rows; the table of the cut with f is too great, that with e and f has 3,686 standings."""
    return Program(["a", "b", "c"], great_rows(), pointers={"p": "a", "q": "c"})


def greater():
    """A program of ten rows; without the row x the first move leads to a wrong standing for "shows"."""
    rows = [("set", "s", "a", []), ("show", "x", "a"), *great_rows()]
    return Program(["a", "b", "c"], rows, pointers={"p": "a", "q": "c"})


def samples():
    """Programs by names, which together have all there is."""
    jumps = [
        ("if", "i", ["a", "p"], [("next", "n")], [("if", "j", [], [], [("leave", "v")])]),
        ("call", "c", "q"),
    ]
    part = [("if", "k", ["b"], [("back", "e")], []), ("point", "m", "p", "b"), ("set", "s", "p", ["a"])]
    return {
        "empty": Program(["a"]),
        "show": Program(["a"], [("show", "x", "a")]),
        "small": small(),
        "twice": Program(["a", "b"], [("copy", "x", "a", "b"), ("copy", "y", "a", "b"), ("show", "z", "a")]),
        "branch": Program(["a", "b"], [
            ("if", "i", ["a"], [("set", "s", "b", [])], [("copy", "c", "b", "a")]), ("show", "w", "b"),
        ]),
        "hollow": Program(["a"], [("loop", "l", ["a"], []), ("if", "i", ["a"], [], []), ("if", "j", [], [], [])]),
        "pointed": Program(["a", "b", "c"], [
            ("point", "m", "p", "b"), ("set", "s", "p", ["q", "a"]), ("point", "n", "q", "p"), ("copy", "t", "q", "c"),
            ("show", "w", "p"), ("show", "x", "b"),
        ], pointers={"q": "c", "p": "a"}),
        "jumps": Program(["a", "b"], [("loop", "l", ["a"], jumps), ("show", "w", "a")], pointers={"p": "a"},
        parts={"q": part}),
        "twoloops": Program(["a", "b"], [
            ("loop", "o", ["a"], [
                ("set", "s", "a", ["a"]),
                ("loop", "l", ["b", "a"], [("set", "t", "b", ["b"]), ("if", "i", ["b"], [("leave", "v")], [])]),
                ("show", "w", "b"),
            ]),
            ("show", "x", "a"),
        ]),
        "calls": Program(["a", "b"], [
            ("call", "c", "p"), ("loop", "l", ["a"], [("call", "d", "p")]), ("call", "e", "r"), ("show", "w", "b"),
        ], parts={
            "p": [("loop", "m", ["b"], [("set", "s", "b", ["a"])]), ("call", "f", "q")],
            "q": [("copy", "t", "a", "b"), ("if", "i", ["a"], [("stop", "z")], [("back", "y")])],
            "r": [],
        }),
        "late": Program(["a"], [
            ("stop", "h"), ("loop", "l", ["a"], [("next", "n"), ("leave", "v"), ("show", "w", "a")]),
            ("set", "s", "a", []),
        ]),
    }


class Maker:
    """Makes programs, the same ones each time."""

    def __init__(self, seed):
        self.random = random.Random(seed)

    def program(self):
        """A program that is right; attempts that are not are thrown away."""
        while True:
            try:
                return self.attempt()
            except (CutError, StateError, LimitError):
                pass

    def programs(self, many):
        return [self.program() for _ in range(many)]

    def attempt(self):
        self.labels = [first + second for first in "abcdefghijklmnopqrstuvwxyz" for second in "wxyz"]
        self.random.shuffle(self.labels)
        self.boxes = ["a", "b", "c"][:self.random.randrange(1, 4)]
        self.pointers = {name: self.random.choice(self.boxes) for name in ["p", "q"][:self.random.choice([0, 0, 1, 2])]}
        self.parts = ["u", "v", "w"][:self.random.choice([0, 0, 1, 1, 2, 3])]
        main = self.block(self.random.randrange(1, 5), 0, False, 0)
        parts = {
            name: self.block(self.random.randrange(0, 4), 0, True, place + 1) for place, name in enumerate(self.parts)
        }
        return Program(self.boxes, main, pointers=self.pointers, parts=parts)

    def operand(self):
        return self.random.choice(self.boxes + list(self.pointers))

    def reads(self):
        return [self.operand() for _ in range(self.random.choice([0, 1, 1, 1, 2, 3]))]

    def block(self, many, depth, in_part, home, in_loop=False):
        return [self.row(depth, in_part, home, in_loop) for _ in range(many)]

    def row(self, depth, in_part, home, in_loop):
        words = ["set", "set", "copy", "show"]
        words += ["if", "loop", "loop"] if depth < 3 else []
        words += ["point", "point"] if self.pointers else []
        words += ["call", "call"] if self.parts[home:] else []
        words += ["leave", "next"] if in_loop else []
        words += ["back"] if in_part else []
        words += ["stop"] if self.random.random() < 0.3 else []
        word, label = self.random.choice(words), self.labels.pop()
        if word in ("if", "loop"):
            inside = in_loop or word == "loop"
            blocks = [
                self.block(self.random.choice([0, 1, 1, 2]), depth + 1, in_part, home, inside)
                for _ in range(2 if word == "if" else 1)
            ]
            return (word, label, self.reads(), *blocks)
        behind = {
            "set": lambda: (self.operand(), self.reads()),
            "copy": lambda: (self.operand(), self.operand()),
            "show": lambda: (self.operand(),),
            "point": lambda: (self.random.choice(list(self.pointers)), self.operand()),
            "call": lambda: (self.random.choice(self.parts[home:]),),
        }
        return (word, label, *behind.get(word, tuple)())

    def yes(self, program, many=6):
        """A yes list, most of which is asked: found by looking at what a run asks."""
        from cutshows.runs import Run
        yes = []
        for _ in range(many):
            run = Run(program, yes)
            run.go()
            noes = [(told[0], told[1]) for told in run.asked() if not told[3]]
            if not noes:
                break
            yes.append(self.random.choice(noes))
        return yes

    def cut(self, program):
        """A closed cut."""
        from cutshows.cuts import closed_of
        labels = [label for label in program.labels() if self.random.random() < 0.25]
        return closed_of(program, labels)

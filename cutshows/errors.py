"""All errors of the package, four bases and the classes right below them.

Those with parameters do not call the constructor above them: so Python keeps what they were made with, and
shows it as their message.
"""


class CutError(ValueError):
    """A value that was passed is not as it must be."""

    def __init__(self):
        super().__init__()


class InvalidClasses(CutError):
    """This is no list of the classes of a partition."""

    def __init__(self, value):
        self.value = value


class InvalidHolder(CutError):
    """This is no holder of the partition, or no such number or list of holders."""

    def __init__(self, value):
        self.value = value


class InvalidPartition(CutError):
    """This is no partition."""

    def __init__(self, value):
        self.value = value


class InvalidBoxes(CutError):
    """The boxes are no such list (None), or the one at this position is wrong."""

    def __init__(self, position):
        self.position = position


class InvalidPointers(CutError):
    """The pointers are no such dict (None), or what this one reaches is no box."""

    def __init__(self, key):
        self.key = key


class InvalidParts(CutError):
    """The parts are no such dict (None), or what stands at this one is no list."""

    def __init__(self, key):
        self.key = key


class InvalidRows(CutError):
    """The rows are no list (None), or the one at this position in text order is none."""

    def __init__(self, position):
        self.position = position


class InvalidProgram(CutError):
    """This is no program."""

    def __init__(self, value):
        self.value = value


class InvalidPoint(CutError):
    """This is no point that is asked for."""

    def __init__(self, value):
        self.value = value


class InvalidSymbols(CutError):
    """This is no number of boxes, or no symbols of so many boxes."""

    def __init__(self, value):
        self.value = value


class InvalidYes(CutError):
    """The yes list is no list (None), or what it has at this position is wrong."""

    def __init__(self, position):
        self.position = position


class InvalidLabels(CutError):
    """The labels are no list (None), or the one at this position is wrong."""

    def __init__(self, position):
        self.position = position


class InvalidPlay(CutError):
    """This is no play."""

    def __init__(self, value):
        self.value = value


class InvalidStanding(CutError):
    """This is no standing of the program and the cut."""

    def __init__(self, value):
        self.value = value


class InvalidVow(CutError):
    """This is no vow."""

    def __init__(self, value):
        self.value = value


class InvalidWish(CutError):
    """The wish is no such list (None), or the vow at this position is wrong."""

    def __init__(self, position):
        self.position = position


class InvalidRow(CutError):
    """This is no row that can stand there."""

    def __init__(self, value):
        self.value = value


class InvalidText(CutError):
    """This is no text (None), or no program's text on account of this line."""

    def __init__(self, line):
        self.line = line


class InvalidClaim(CutError):
    """This is no claim."""

    def __init__(self, value):
        self.value = value


class InvalidCommand(CutError):
    """This is no command."""

    def __init__(self, value):
        self.value = value


class MissingError(LookupError):
    """What was asked for is not there."""

    def __init__(self):
        super().__init__()


class UnknownLabel(MissingError):
    """No row of the program has this label."""

    def __init__(self, value):
        self.value = value


class UnknownName(MissingError):
    """Nothing has this name."""

    def __init__(self, value):
        self.value = value


class UnknownBox(MissingError):
    """This is neither a box nor a pointer."""

    def __init__(self, value):
        self.value = value


class UnknownSymbol(MissingError):
    """No symbol has this number."""

    def __init__(self, value):
        self.value = value


class StateError(RuntimeError):
    """The values are right, but not together, or not now."""

    def __init__(self):
        super().__init__()


class OtherHolders(StateError):
    """The partitions have not as many holders, or not the same gone ones."""

    def __init__(self, one, other):
        self.one = one
        self.other = other


class CallRing(StateError):
    """From this part calls lead to itself."""

    def __init__(self, part):
        self.part = part


class NotCalled(StateError):
    """No calls lead from the main rows to this part."""

    def __init__(self, part):
        self.part = part


class NotClosed(StateError):
    """The cut lacks this label, which must go with those that it has."""

    def __init__(self, label):
        self.label = label


class TwoWorlds(StateError):
    """Both programs ask the same at this label and where, but the answers are unlike."""

    def __init__(self, label, passes):
        self.label = label
        self.passes = passes


class RunOver(StateError):
    """The run is at the end."""

    def __init__(self):
        super().__init__()


class NotRight(StateError):
    """The cut does not keep this vow."""

    def __init__(self, vow):
        self.vow = vow


class Untrue(StateError):
    """This claim is not true."""

    def __init__(self, claim):
        self.claim = claim


class NothingToUndo(StateError):
    """There is nothing to take back."""

    def __init__(self):
        super().__init__()


class CommandFailed(StateError):
    """The command at this position raised an error."""

    def __init__(self, position):
        self.position = position


class LimitError(ArithmeticError):
    """There is more of something than the package takes."""

    def __init__(self):
        super().__init__()


class TooMany(LimitError):
    """There are more of these than the limit."""

    def __init__(self, what, limit):
        self.what = what
        self.limit = limit

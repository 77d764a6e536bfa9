"""Partitions: which of one to eight holders hold the same."""

from cutshows.basics import is_count, is_integer
from cutshows.errors import InvalidClasses, InvalidHolder, InvalidPartition, OtherHolders

GONE = -1


class Partition:
    """Tells of holders, counted from 0, which are alike and which are gone; it never changes."""

    MOST_HOLDERS = 8

    def __init__(self, classes):
        if not are_classes(classes):
            raise InvalidClasses(classes)
        self._classes = tuple(classes)

    @classmethod
    def apart(cls, many):
        """So many holders, all unlike."""
        _check_many(many)
        return cls(list(range(many)))

    @classmethod
    def together(cls, many):
        """So many holders, all alike."""
        _check_many(many)
        return cls([0] * many)

    @property
    def classes(self):
        """The tuple of the classes."""
        return self._classes

    def __len__(self):
        return len(self._classes)

    def __getitem__(self, holder):
        _check_holders(self._classes, [holder])
        return self._classes[holder]

    def __iter__(self):
        raise TypeError("a partition is not iterated over")

    def __eq__(self, other):
        return isinstance(other, Partition) and self._classes == other._classes

    def __repr__(self):
        return f"Partition({self._classes!r})"

    def __and__(self, other):
        """The meet: alike are those that are alike in both."""
        _check_pair(self, other)
        return Partition(numbered(_met(self._classes, other._classes)))

    def __rand__(self, other):
        # Only a value that is no partition on the left side leads here.
        raise InvalidPartition(other)

    def __or__(self, other):
        """The join: the finest one than which both are finer, or to which they are equal."""
        _check_pair(self, other)
        return Partition(numbered(_joined(self._classes, other._classes)))

    def __ror__(self, other):
        # Only a value that is no partition on the left side leads here.
        raise InvalidPartition(other)

    def is_finer(self, other):
        """Whether it is finer than the other one, or equal to it."""
        _check_pair(self, other)
        return numbered(_met(self._classes, other._classes)) == list(self._classes)

    def is_alike(self, *holders):
        """Whether these are all alike; nobody is alike with one that is gone, not even itself."""
        _check_holders(self._classes, holders)
        found = [self._classes[holder] for holder in holders]
        return GONE not in found and all([number == found[0] for number in found])

    def groups(self):
        """The lists of alike holders, ascending, by their least holders."""
        return [_members(self._classes, number) for number in range(max(self._classes) + 1)]

    def gone(self):
        """The sorted list of the holders that are gone."""
        return _members(self._classes, GONE)

    def copied(self, target, source):
        """The same with the target in the class of source, or gone, if source is."""
        _check_holders(self._classes, [target, source])
        return Partition(numbered(_marked(self._classes, [target], self._classes[source])))

    def fresh(self, *targets):
        """The same with these together in a new class."""
        _check_holders(self._classes, targets)
        return Partition(numbered(_marked(self._classes, targets, len(self._classes))))

    def without(self, *holders):
        """The same with these gone."""
        _check_holders(self._classes, holders)
        return Partition(numbered(_marked(self._classes, holders, GONE)))

    def renamed(self, order):
        """The one in which the holder k is what the holder order[k] is here."""
        if not _is_order(order, len(self._classes)):
            raise InvalidHolder(order)
        return Partition(numbered([self._classes[holder] for holder in order]))


def all_partitions(many):
    """Generates the partitions of so many holders, none gone, in ascending order of their classes."""
    _check_many(many)
    classes = [0] * many
    while classes is not None:
        yield Partition(classes)
        classes = _next_classes(classes)


def count_of(many):
    """How many partitions of so many holders there are, if none is gone."""
    _check_many(many)
    # The rows of Bell's triangle: each begins with the last number of the row above it,
    # and the last number of the row k is the count for k holders.
    row = [1]
    for _ in range(many - 1):
        below = [row[-1]]
        for number in row:
            below.append(below[-1] + number)
        row = below
    return row[-1]


def _check_many(many):
    if not is_integer(many) or not 1 <= many <= Partition.MOST_HOLDERS:
        raise InvalidHolder(many)


def _check_holders(classes, holders):
    for holder in holders:
        if not is_count(holder) or holder >= len(classes):
            raise InvalidHolder(holder)


def _check_pair(one, other):
    if not isinstance(other, Partition):
        raise InvalidPartition(other)
    if _gone_marks(one.classes) != _gone_marks(other.classes):
        raise OtherHolders(one, other)


def _gone_marks(classes):
    return [number == GONE for number in classes]


def are_classes(value):
    if not isinstance(value, (list, tuple)) or not 1 <= len(value) <= Partition.MOST_HOLDERS:
        return False
    if not all([is_integer(number) for number in value]):
        return False
    return numbered(value) == list(value)


def _is_order(value, many):
    if not isinstance(value, (list, tuple)) or not all([is_integer(holder) for holder in value]):
        return False
    return sorted(value) == list(range(many))


def numbered(marks):
    """The classes of holders with these marks: those with the same are alike, those with GONE are gone."""
    told = []
    for mark in marks:
        if mark != GONE and mark not in told:
            told.append(mark)
    return [GONE if mark == GONE else told.index(mark) for mark in marks]


def _members(classes, number):
    return [holder for holder, found in enumerate(classes) if found == number]


def _marked(classes, holders, mark):
    return [mark if holder in holders else number for holder, number in enumerate(classes)]


def _met(one, other):
    return [GONE if first == GONE else (first, second) for first, second in zip(one, other)]


def _joined(one, other):
    marks = list(one)
    for number in range(max(other) + 1):
        bound = [marks[holder] for holder in _members(other, number)]
        marks = [bound[0] if mark in bound else mark for mark in marks]
    return marks


def _next_classes(classes):
    """The classes that come next in ascending order, with as many holders, or None behind the last ones."""
    for place in reversed(range(1, len(classes))):
        if classes[place] <= max(classes[:place]):
            return classes[:place] + [classes[place] + 1] + [0] * (len(classes) - place - 1)
    return None

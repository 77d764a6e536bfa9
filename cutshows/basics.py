"""What the values are of which everything else is made: INTEGERS, COUNTS, NAMES and wheres."""

LETTERS = "abcdefghijklmnopqrstuvwxyz"
MOST_LETTERS = 8
MOST_BOXES = 3


def is_integer(value):
    """Whether the value is an INTEGER: an int, but neither True nor False."""
    return isinstance(value, int) and not isinstance(value, bool)


def is_count(value):
    """Whether the value is a COUNT: an INTEGER that is at least 0."""
    return is_integer(value) and value >= 0


def is_name(value):
    """Whether the value is a NAME: a string of one to eight letters from a to z."""
    if not isinstance(value, str) or not 1 <= len(value) <= MOST_LETTERS:
        return False
    return all([letter in LETTERS for letter in value])


def is_list(value):
    """Whether the value is a list, or a tuple, which may stand in the place of one."""
    return isinstance(value, (list, tuple))


def is_where(value):
    """Whether the value is a where: a tuple, perhaps empty, of passes and of labels of calls."""
    return isinstance(value, tuple) and all([_is_pass(step) or is_name(step) for step in value])


def replaced_in(values, position, value):
    """A tuple with another value at a position."""
    return values[:position] + (value,) + values[position + 1:]


def _is_pass(value):
    return is_integer(value) and value >= 1

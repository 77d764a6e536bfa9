"""Cuts: which rows are left out, and what must go with them."""

from cutshows.checks import check_labels, check_program, check_vow, check_wish
from cutshows.errors import NotClosed
from cutshows.programs import Program
from cutshows.rows import rows_without


def is_closed(program, labels):
    """Whether a cut is closed."""
    check_program(program)
    check_labels(program, labels)
    return len(_closed_with(program, labels)) == len(labels)


def closed_of(program, labels):
    """The least closed cut with these labels, a sorted list."""
    check_program(program)
    check_labels(program, labels)
    return sorted(_closed_with(program, labels))


def all_closed(program):
    """Generates all closed cuts, sorted lists, in ascending order."""
    check_program(program)
    labels = sorted(program.labels(), reverse=True)
    # A cut comes ahead of those that have more labels behind all of its own, and the last one waiting comes next.
    waiting = [[]]
    while waiting:
        cut = waiting.pop()
        waiting.extend([cut + [label] for label in labels if not cut or label > cut[-1]])
        if len(_closed_with(program, cut)) == len(cut):
            yield cut


def cut_program(program, labels):
    """The program without these rows, and without the parts that no call reaches any more."""
    check_cut(program, labels)
    parts = program.parts()
    kept = {name: rows_without(parts[name], labels) for name in program.parts_from("", labels)}
    main = rows_without(program.rows(), labels)
    return Program(program.boxes(), main, pointers=program.pointers(), parts=kept)


def check_cut(program, labels):
    """Raises the errors of a program and a closed cut."""
    check_program(program)
    check_labels(program, labels)
    check_closed(program, labels)


def check_cut_and_vow(program, labels, vow):
    """Raises the errors of a program, a closed cut, and a vow behind them."""
    check_program(program)
    check_labels(program, labels)
    check_vow(vow)
    check_closed(program, labels)


def check_cut_and_wish(program, labels, wish):
    """Raises the errors of a program, a closed cut, and a wish behind them."""
    check_program(program)
    check_labels(program, labels)
    check_wish(wish)
    check_closed(program, labels)


def check_closed(program, labels):
    """Raises the error of a cut that is not closed, with the least label that it lacks."""
    for label in sorted(_closed_with(program, labels)):
        if label not in labels:
            raise NotClosed(label)


def _closed_with(program, labels):
    """The labels of the least closed cut with these, in any sequence."""
    found = {label: True for label in labels}
    for label in labels:
        for inner in program.within(label):
            found[inner] = True
    # The rows of parts that are not reached lead to no other part, so there is nothing to look at once more.
    reached = program.parts_from("", found)
    for label in program.labels():
        if program.part_of(label) not in ["", *reached]:
            found[label] = True
    return list(found)

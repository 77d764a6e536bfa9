"""Changes: programs made anew with another row, and what becomes of cuts and boxes."""

from cutshows.checks import check_label, check_labels, check_point, check_program, check_wish
from cutshows.cuts import check_closed, check_cut, closed_of
from cutshows.errors import InvalidRow
from cutshows.least import right_cuts
from cutshows.programs import Program
from cutshows.rows import Reader, blocks_of
from cutshows.tables import table


def put_first(program, row):
    """The program with this row at the beginning of the main rows."""
    check_program(program)
    _check_row(program, row, program.labels(), False, False)
    return _made(program, [row, *program.rows()], program.parts())


def put_behind(program, label, row):
    """The program with this row behind that with the label, in the same block."""
    check_program(program)
    check_label(program, label)
    _check_row_at(program, label, row, program.labels())
    return _exchanged(program, label, [program[label], row])


def replaced(program, label, row):
    """The program with this row in the place of that with the label, and of all that is within it."""
    check_program(program)
    check_label(program, label)
    gone = [label, *program.within(label)]
    _check_row_at(program, label, row, [other for other in program.labels() if other not in gone])
    return _exchanged(program, label, [row])


def still(program, labels, other):
    """The least closed cut of the other program with those labels of a closed cut that it has."""
    check_program(program)
    check_labels(program, labels)
    check_program(other)
    check_closed(program, labels)
    return _still_left_out(labels, other)


def still_right(program, other, wish):
    """The list of all closed right cuts of the program for which `still` is right for the other one."""
    check_program(program)
    check_program(other)
    check_wish(wish)
    right = right_cuts(program, wish)
    right_there = right_cuts(other, wish)
    return [cut for cut in right if _still_left_out(cut, other) in right_there]


def always_alike(program, labels, point):
    """The sorted list of the boxes that are alike whenever both sides are at this point, if they ever are."""
    check_cut(program, labels)
    check_point(program, point)
    met = [standing[4] for standing in table(program, labels) if standing[:2] == (point, point)]
    # At the end nothing is held any more.
    if not met or point == program.plan.end:
        return []
    boxes = program.boxes()
    width = len(boxes)
    return sorted([
        box for place, box in enumerate(boxes) if all([classes[place] == classes[place + width] for classes in met])
    ])


def _still_left_out(labels, other):
    return closed_of(other, [label for label in labels if label in other])


def _check_row_at(program, label, row, staying):
    """Raises the error of a row that cannot stand in the block of the one with the label, beside staying labels."""
    in_loop = any([program[outer][0] == "loop" for outer in program.around(label)])
    _check_row(program, row, staying, in_loop, program.part_of(label) != "")


def _check_row(program, row, staying, in_loop, in_part):
    reader = Reader(program.boxes(), program.pointers(), program.parts(), staying)
    if not reader.are_rows([row], in_loop, in_part):
        raise InvalidRow(row)


def _exchanged(program, label, rows):
    """The program with these rows in the place of the one with the label."""
    parts = program.parts()
    parts = {name: _with_rows(parts[name], label, rows) for name in parts}
    return _made(program, _with_rows(program.rows(), label, rows), parts)


def _made(program, rows, parts):
    return Program(program.boxes(), rows, pointers=program.pointers(), parts=parts)


def _with_rows(block, label, rows):
    """The rows of a block, in which these stand in the place of the one with the label, be it here or within."""
    found = []
    for row in block:
        if row[1] == label:
            found.extend(rows)
        elif blocks_of(row):
            found.append(row[:3] + tuple([_with_rows(inner, label, rows) for inner in blocks_of(row)]))
        else:
            found.append(row)
    return found

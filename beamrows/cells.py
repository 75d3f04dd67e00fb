"""Checkers of the papers that say a program is in time, or that a way of it is late."""

from beamrows.bounds import is_byte, is_number, is_tuple_of
from beamrows.deeds import kind
from beamrows.flow import MOST, flow_of, is_walk, walk_beats
from beamrows.outcomes import comes_of
from beamrows.programs import is_wait

MOST_CELLS = 3000
# A wait that begins with this beat has its two beats done within the line.
LAST_BEGIN = 30
LONGEST_LATE = 40

FIRST_CELL = (0, 0, 1, 0, 0)


def right_times(program, base, thing):
    """Whether anything is cells of the program that keep in time."""
    flow = flow_of(program, base)
    if not are_entries(program, thing, is_cell) or not is_kept(thing[0], FIRST_CELL):
        return False
    for row, cells in enumerate(thing):
        for cell in cells:
            for follow, outcome in comes_of(flow, row, cell):
                if not is_kept(thing[follow], outcome):
                    return False
    return True


def are_entries(program, thing, is_part):
    """Whether anything is a tuple with an entry for each row, each a tuple of rising parts of one sort."""
    if not is_tuple_of(thing, len(program)):
        return False
    if not all(isinstance(entry, tuple) for entry in thing):
        return False
    if sum(len(entry) for entry in thing) > MOST_CELLS:
        return False
    for (mark, deed, value), entry in zip(program, thing):
        if kind(deed) == "table" and len(entry) > 0:
            return False
        if not all(is_part(part) for part in entry) or not is_rising(entry):
            return False
    return True


def is_cell(thing):
    """Whether anything is a cell."""
    if not is_tuple_of(thing, 5):
        return False
    low, high, zero, early, late = thing
    if not is_x_part(low, high, zero):
        return False
    if not is_number(early, 0, LAST_BEGIN) or not is_number(late, 0, LAST_BEGIN):
        return False
    return early <= late


def is_x_part(low, high, zero):
    """Whether these say which x there can be, and whether the zero flag speaks of it."""
    return is_byte(low) and is_byte(high) and low <= high and is_number(zero, 0, 1)


def is_rising(entry):
    """Whether each part is greater than the one ahead."""
    return all(one < other for one, other in zip(entry, entry[1:]))


def is_kept(cells, cell):
    """Whether the cell is within one of the cells of its row."""
    for other in cells:
        # They are rising: none behind this one has a lesser low.
        if other[0] > cell[0]:
            return False
        if is_within(cell, other):
            return True
    return False


def is_within(cell, other):
    """Whether the cell says no less than the other one of the same row."""
    low, high, zero, early, late = cell
    if not other[0] <= low or not high <= other[1] or zero < other[2]:
        return False
    return other[3] <= early and late <= other[4]


def right_late(program, base, thing):
    """Whether anything is a late way of the program."""
    flow = flow_of(program, base)
    if not is_walk(program, thing, 2, LONGEST_LATE):
        return False
    if thing[0] != 0 and not is_wait(program, thing[0] - 1):
        return False
    if any(is_wait(program, row) for row in thing[:-1]):
        return False
    return walk_beats(flow, thing, MOST) > LAST_BEGIN

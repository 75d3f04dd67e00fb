"""The checker of the paper that says each frame of a program has just so many lines."""

from beamrows.beam import MOST_LINES
from beamrows.bounds import is_number, is_tuple_of
from beamrows.cells import are_entries, is_x_part, right_times
from beamrows.flow import flow_of
from beamrows.frames import END_DOOR
from beamrows.outcomes import outcomes

# Its low, high, zero, asked and line.
FIRST_ENTRY = (0, 0, 1, 0, 0)


def right_frames(program, base, cells, lines, thing):
    """Whether anything is a lines paper of the program, which the cells keep in time, for so many lines."""
    if not right_times(program, base, cells) or not are_entries(program, thing, is_entry):
        return False
    flow = flow_of(program, base)
    known = [by_line(entries) for entries in thing]
    if not is_known(known[0], FIRST_ENTRY):
        return False
    for row, entries in enumerate(thing):
        for entry in entries:
            if flow[row][0] == "wait" and not counts_lines(entry, lines):
                return False
            for follow, outcome in entries_behind(flow, row, entry):
                if not is_known(known[follow], outcome):
                    return False
    return True


def is_entry(thing):
    """Whether anything is an entry of a lines paper."""
    if not is_tuple_of(thing, 5):
        return False
    low, high, zero, asked, line = thing
    return is_x_part(low, high, zero) and is_number(asked, 0, 1) and is_number(line, 0, MOST_LINES - 1)


def by_line(entries):
    """The (low, high, zero) of a row's entries, in lists by their asked and line."""
    told = {}
    for low, high, zero, asked, line in entries:
        told.setdefault((asked, line), []).append((low, high, zero))
    return told


def is_known(known, entry):
    """Whether the entry is within one of those that by_line told of its row."""
    low, high, zero, asked, line = entry
    for first, last, flag in known.get((asked, line), []):
        if first <= low and high <= last and zero >= flag:
            return True
    return False


def counts_lines(entry, lines):
    """Whether a wait with this entry ends the last of so many lines, or one ahead of it."""
    low, high, zero, asked, line = entry
    return line == lines - 1 if asked == 1 else line + 1 < lines


def entries_behind(flow, row, entry):
    """For each way on (next row, entry)."""
    low, high, zero, asked, line = entry
    deed, value = flow[row][:2]
    if deed == "wait":
        line = 0 if asked == 1 else line + 1
        asked = 0
    elif deed == "door" and value == END_DOOR:
        asked = 1
    told = []
    for follow, first, last, behind, least, most in outcomes(flow, row, low, high, zero):
        told.append((follow, (first, last, behind, asked, line)))
    return told

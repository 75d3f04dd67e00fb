"""Rows that do nothing, put ahead of a door row so that its write falls on a told beat."""

from beamrows.deeds import beat_count, kind
from beamrows.errors import NoFill, NoProgram
from beamrows.programs import check, is_door, is_wait

IDLE = ("", "idle", None)
REST = ("", "rest", None)


def filled(program, row, beat):
    """The program with as few such rows right ahead of the door row as there can be."""
    ahead = beats_ahead(program, row)
    if ahead is None:
        raise NoFill("it is no door row with a straight stretch")
    told = program[:row] + fewest_rows(beat - ahead) + program[row:]
    check(told)
    return told


def beats_ahead(program, row):
    """The beats of the row and its stretch; None where it is no door row or its stretch is not straight."""
    if not is_door(program, row):
        return None
    begin = row
    while begin > 0 and not is_wait(program, begin - 1):
        begin -= 1
    rows = program[begin:row + 1]
    if any(mark != "" or kind(deed) in ("mark", "table") for mark, deed, value in rows):
        return None
    return beats_of(rows)


def beats_of(rows):
    """The beats of rows that take just those of their deeds."""
    return sum(beat_count(deed) for mark, deed, value in rows)


def fewest_rows(beats):
    """As few idles and rests as take so many beats together, or NoFill."""
    # Two idles take as long as three rests, so there are less than three rests: as many as leave threes for the idles.
    rests = 2 * beats % 3
    idles = (beats - 2 * rests) // 3
    if idles < 0:
        raise NoFill("no rests and idles take so many beats")
    return (IDLE,) * idles + (REST,) * rests


def right_filled(program, row, beat, thing):
    """Whether anything is the program with rests and idles more ahead of the door row, its write on the told beat."""
    ahead = beats_ahead(program, row)
    if ahead is None or not is_program(thing):
        return False
    behind = row + len(thing) - len(program)
    if behind < row or thing[:row] != program[:row] or thing[behind:] != program[row:]:
        return False
    more = thing[row:behind]
    return all(part in (IDLE, REST) for part in more) and ahead + beats_of(more) == beat


def is_program(thing):
    """Whether anything is a program."""
    try:
        return check(thing)
    except NoProgram:
        return False

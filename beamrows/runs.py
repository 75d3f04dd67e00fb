"""Runs: frames one behind another, from the start, with a tale of hands."""

from beamrows.beam import LINE_BEATS
from beamrows.deeds import beat_count
from beamrows.frames import frame
from beamrows.pages import need_room
from beamrows.programs import is_wait
from beamrows.states import start

NO_HANDS = (0, 0, 0)


def run(program, base, tale, frames):
    """What frame tells of so many frames, in a list."""
    need_room(program, base)
    played = []
    state = start(program)
    for number in range(frames):
        told = frame(program, base, state, hands_of(tale, number))
        played.append(told)
        state = told[3]
    return played


def hands_of(tale, number):
    """The hands with which the frame is played."""
    return tale[number] if number < len(tale) else NO_HANDS


def first_unlike(one, other, frames):
    """The first (frame, line, place) at which the pictures of two runs differ, or None."""
    ours = run(one[0], one[1], one[2], frames)
    theirs = run(other[0], other[1], other[2], frames)
    for number in range(frames):
        spot = spot_unlike(ours[number][0], theirs[number][0])
        if spot is not None:
            return (number,) + spot
    return None


def spot_unlike(picture, other):
    """The first (line, place) at which two pictures differ, or None."""
    for line, (colours, others) in enumerate(zip(picture, other)):
        for place, colour in enumerate(colours):
            if colour != others[place]:
                return (line, place)
    if len(picture) != len(other):
        return (min(len(picture), len(other)), 0)
    return None


def is_in_time(program, rows):
    """Whether each wait is done within the line in which the row behind the wait ahead, or the first row, began."""
    last_begin = LINE_BEATS - beat_count("wait")
    begun = None
    for number, told in enumerate(rows):
        for row, line, beat in told:
            if begun is None:
                begun = (number, line)
            if is_wait(program, row):
                if begun != (number, line) or beat > last_begin:
                    return False
                # The row behind, perhaps one of the next frame, tells the line anew.
                begun = None
    return True

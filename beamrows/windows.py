"""From which beats of a line the write of a door row can hold."""

from beamrows.cells import right_times
from beamrows.deeds import beat_count
from beamrows.errors import NoPaper
from beamrows.programs import is_door


def window(program, base, cells, row):
    """(first, last) of these beats, by cells that keep in time."""
    if not right_times(program, base, cells):
        raise NoPaper("the cells do not keep in time")
    if not is_door(program, row) or len(cells[row]) == 0:
        raise NoPaper("it is no door row with a cell")
    beats = beat_count("door")
    first = min(early for low, high, zero, early, late in cells[row])
    last = max(late for low, high, zero, early, late in cells[row])
    return (first + beats, last + beats)

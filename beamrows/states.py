"""States: how a run stands between two rows."""

from beamrows.bounds import are_so_many_bytes, is_byte, is_number, is_tuple_of
from beamrows.deeds import kind
from beamrows.places import DOOR_COUNT
from beamrows.programs import is_wait

MEMORY_SIZE = 16
MOST_MEETINGS = 63
MOST_TIMER = 4080
MOST_BEAT = 4


def is_state(program, thing):
    """Whether anything is a state of the program."""
    if not is_tuple_of(thing, 12):
        return False
    row, a, x, zero, carry, memory, doors, meetings, timer, beat, waiting, asked = thing
    if not is_code_row(program, row) or not is_byte(a) or not is_byte(x):
        return False
    if not are_so_many_bytes(memory, MEMORY_SIZE) or not are_so_many_bytes(doors, DOOR_COUNT):
        return False
    if not all(is_number(bit, 0, 1) for bit in (zero, carry, waiting, asked)):
        return False
    if not is_number(meetings, 0, MOST_MEETINGS) or not is_number(timer, 0, MOST_TIMER):
        return False
    if not is_number(beat, 0, MOST_BEAT):
        return False
    return waiting == 0 or may_wait(program, row, beat, asked)


def is_code_row(program, thing):
    """Whether anything is the number of a row that is no table row."""
    return is_number(thing, 0, len(program) - 1) and kind(program[thing][1]) != "table"


def may_wait(program, row, beat, asked):
    """Whether a run can be waiting when it stands so ahead of the row."""
    return beat == 1 and asked == 0 and is_wait(program, row - 1)


def start(program):
    """The state at which a run begins."""
    return (0, 0, 0, 1, 0, (0,) * MEMORY_SIZE, (0,) * DOOR_COUNT, 0, 0, 0, 0, 0)

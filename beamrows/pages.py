"""Where the rows of a program stand, and which steps between them lead to another page."""

from beamrows.bounds import is_byte
from beamrows.deeds import byte_count, is_if
from beamrows.errors import NoRoom
from beamrows.programs import row_of

ROOM = 256
PAGE = 32


def need_room(program, base):
    """Refuse a base at which the program does not fit in."""
    if not is_byte(base) or base + length(program) > ROOM:
        raise NoRoom("the base and the length of all rows are more than 256 together")


def length(rows):
    """How many bytes long the rows are together."""
    return sum(byte_count(deed) for mark, deed, value in rows)


def address(program, base, row):
    """The address of a row."""
    need_room(program, base)
    return base + length(program[:row])


def addresses(program, base):
    """The addresses of all rows, in their order."""
    need_room(program, base)
    told = []
    here = base
    for mark, deed, value in program:
        told.append(here)
        here += byte_count(deed)
    return told


def page_signs(program, base):
    """For each row what its step to another page hangs on."""
    starts = addresses(program, base)
    return tuple([page_sign(program, starts, row) for row in range(len(program))])


def page_sign(program, starts, row):
    """The entry of one row: an int, a tuple of 256 ints or None."""
    mark, deed, value = program[row]
    if is_if(deed):
        return crossing(starts[row + 1], starts[row_of(program, value)])
    if deed == "at":
        table = starts[row_of(program, value)]
        return tuple([crossing(table, table + x) for x in range(256)])
    return None


def crossing(one, other):
    """1 where the two addresses are on unlike pages, else 0."""
    return 1 if one // PAGE != other // PAGE else 0

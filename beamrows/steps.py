"""What doing a row makes of the processor, and how many beats it takes."""

from beamrows.deeds import beat_count
from beamrows.pages import addresses, crossing
from beamrows.programs import row_of
from beamrows.states import MEMORY_SIZE

BYTE = 256

SETS_A = ("set", "get", "add", "sub", "mask", "flip", "half", "twice", "toa", "take", "at", "eye")
SETS_X = ("setx", "getx", "up", "down", "tox")


def deed_done(program, base, state, told):
    """What doing the state's row makes of (row, a, x, zero, carry, memory), and its beats."""
    starts = addresses(program, base)
    return done(program, state, told) + (row_beats(program, starts, state),)


def done(program, state, told):
    """The row to be done next, a, x, zero, carry and memory behind the state's row."""
    row, a, x, zero, carry, memory = state[:6]
    mark, deed, value = program[row]
    new_a = a_behind(program, state, told)
    new_x = x_behind(deed, value, a, x, memory)
    return (
        row_behind(program, state),
        new_a,
        new_x,
        zero_behind(deed, value, a, zero, new_a, new_x),
        carry_behind(deed, value, a, carry, memory),
        memory_behind(deed, value, a, x, memory),
    )


def row_behind(program, state):
    """The number of the row that is done next."""
    mark, deed, value = program[state[0]]
    if deed == "go" or goes(deed, state[3], state[4]):
        return row_of(program, value)
    return state[0] + 1


def goes(deed, zero, carry):
    """Whether it is an if-row's deed that goes to its mark with these flags."""
    match deed:
        case "ifz":
            return zero == 1
        case "ifn":
            return zero == 0
        case "ifc":
            return carry == 1
        case "ifd":
            return carry == 0
    return False


def a_behind(program, state, told):
    """What a is behind the state's row; told is what an eye tells."""
    row, a, x, zero, carry, memory = state[:6]
    mark, deed, value = program[row]
    match deed:
        case "set":
            return value
        case "half":
            return a // 2
        case "twice":
            return 2 * a % BYTE
        case "toa":
            return x
        case "take":
            return memory[(value + x) % MEMORY_SIZE]
        case "at":
            return table_byte(program, row_of(program, value) + x)
        case "eye":
            return told
        case "get" | "add" | "sub" | "mask" | "flip":
            return joined(deed, a, memory[value])
    return a


def joined(deed, a, held):
    """What comes of a and what memory holds."""
    match deed:
        case "add":
            return (a + held) % BYTE
        case "sub":
            return (a - held) % BYTE
        case "mask":
            return a & held
        case "flip":
            return a ^ held
    return held


def table_byte(program, row):
    """The byte of a table row, 0 where the table has ended."""
    return program[row][2] if row < len(program) else 0


def x_behind(deed, value, a, x, memory):
    """What x is behind the row."""
    match deed:
        case "setx":
            return value
        case "getx":
            return memory[value]
        case "up":
            return (x + 1) % BYTE
        case "down":
            return (x - 1) % BYTE
        case "tox":
            return a
    return x


def zero_behind(deed, value, a, zero, new_a, new_x):
    """What the zero flag is behind the row."""
    if deed in SETS_A:
        return flag(new_a == 0)
    if deed in SETS_X:
        return flag(new_x == 0)
    if deed == "test":
        return flag(a == value)
    return zero


def carry_behind(deed, value, a, carry, memory):
    """What the carry flag is behind the row."""
    match deed:
        case "add":
            return flag(a + memory[value] >= BYTE)
        case "sub":
            return flag(a >= memory[value])
        case "test":
            return flag(a >= value)
        case "half":
            return a % 2
        case "twice":
            return flag(a >= BYTE // 2)
    return carry


def flag(truth):
    """1 where it is so, else 0."""
    return 1 if truth else 0


def memory_behind(deed, value, a, x, memory):
    """What memory is behind the row."""
    match deed:
        case "put":
            return with_byte(memory, value, a)
        case "putx":
            return with_byte(memory, value, x)
        case "lay":
            return with_byte(memory, (value + x) % MEMORY_SIZE, a)
    return memory


def with_byte(memory, place, byte):
    """The memory where one place holds another byte."""
    return memory[:place] + (byte,) + memory[place + 1:]


def row_beats(program, starts, state):
    """How many beats the state's row takes, of a wait two; starts are the addresses of all rows."""
    row, a, x, zero, carry = state[:5]
    mark, deed, value = program[row]
    beats = beat_count(deed)
    if goes(deed, zero, carry):
        return beats + 1 + crossing(starts[row + 1], starts[row_of(program, value)])
    if deed == "at":
        table = starts[row_of(program, value)]
        return beats + crossing(table, table + x)
    return beats

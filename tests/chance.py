"""Programs, states and hands by chance, the same ones each time."""

from tests.samples import lengths_of

PLAIN = ("half", "twice", "up", "down", "tox", "toa", "rest", "idle", "wait")
MEMORY = ("get", "put", "add", "sub", "mask", "flip", "getx", "putx", "lay", "take")
IFS = ("ifz", "ifn", "ifc", "ifd")


def name_of(row):
    """The name of the row's mark."""
    return "m" + "abcdefghijkl"[row // 10] + "abcdefghij"[row % 10]


def chance_row(chance, code, tables):
    """A deed and its value; a mark deed's value is the number of the row it leads to."""
    sort = chance.randrange(20)
    if sort < 3:
        return chance.choice(("set", "test", "setx")), chance.choice((0, 1, 2, 127, 128, 255, chance.randrange(256)))
    if sort < 7:
        return chance.choice(MEMORY), chance.randrange(16)
    if sort < 11:
        return chance.choice(PLAIN), None
    if sort < 14:
        return chance.choice(IFS), chance.randrange(code)
    if sort < 15 and tables:
        return "at", code + chance.randrange(tables)
    if sort < 17:
        return "eye", chance.randrange(6)
    if sort < 18:
        return "wait", None
    return "door", chance.choice((0, 0, 0, 1, 2, 18, 19, chance.randrange(20)))


def chance_program(chance, most=30, waits=0):
    """A program of up to so many rows, and some table rows; each row is made a wait in so many of 100 cases."""
    code = chance.randrange(1, most)
    tables = chance.choice((0, 1, 3, 10))
    rows = [chance_row(chance, code, tables) for _ in range(code - 1)]
    rows = [("wait", None) if chance.randrange(100) < waits else row for row in rows]
    rows.append(("go", chance.choice((0, chance.randrange(code)))))
    rows += [("data", chance.randrange(256)) for _ in range(tables)]
    return with_marks(rows)


def chance_game(chance):
    """A program of some lines a frame, each a stretch of rows with a wait at its end, and an end asked for in the last.

    If-rows lead forward within their stretch, so each frame ends, and whether it is in time is a matter of the hands.
    """
    rows = []
    for _ in range(chance.randrange(1, 5)):
        begin, many = len(rows), chance.randrange(4, 13)
        while len(rows) < begin + many:
            deed, value = chance_row(chance, begin + many + 1, 0)
            if deed in IFS:
                value = chance.randrange(len(rows) + 1, begin + many + 1)
            if deed != "wait":
                rows.append((deed, value))
        rows.append(("wait", None))
    # In place of the last wait: an if-row that leads there comes to the write.
    rows[-1:] = [("door", 0), ("wait", None), ("go", 0)]
    return with_marks(rows)


def chance_frames(chance):
    """A program of some lines a frame, straight ones, ones with branches and ones counted by x.

    Mostly each frame has as many lines; in some cases a branch leads over a wait, or an end is asked for elsewhere.
    """
    rows = []
    for _ in range(chance.randrange(1, 5)):
        loop = chance.randrange(3) == 0
        if loop:
            rows.append(("setx", chance.choice((1, 2, 3, 9))))
        begin, many = len(rows), chance.randrange(1, 6)
        while len(rows) < begin + many:
            deed, value = chance_row(chance, begin + many + 1, 0)
            if deed in IFS:
                # The last row that it can lead to is the one behind the wait.
                last = begin + many + (1 if chance.randrange(12) == 0 else 0)
                value = chance.randrange(len(rows) + 1, last + 1)
            moves_x = deed in ("setx", "getx", "up", "down", "tox")
            ends = deed == "door" and value == 0 and chance.randrange(12) > 0
            if deed != "wait" and not (loop and moves_x) and not ends:
                rows.append((deed, value))
        rows.append(("wait", None))
        if loop:
            rows += [("down", None), ("ifn", begin)]
    rows += [("door", 0), ("wait", None), ("go", 0)]
    return with_marks(rows)


def with_marks(rows):
    """The program of rows (deed, value), in which the value of a mark deed is a row's number."""
    led_to = {value for deed, value in rows if deed in IFS + ("go", "at")}
    program = []
    for number, (deed, value) in enumerate(rows):
        mark = name_of(number) if number in led_to else ""
        program.append((mark, deed, name_of(value) if deed in IFS + ("go", "at") else value))
    return tuple(program)


def chance_base(chance, program):
    """A base with room for the program."""
    return chance.randrange(256 - sum(lengths_of(program)) + 1)


def chance_hands(chance):
    """Hands."""
    return (chance.randrange(16), chance.randrange(16), chance.randrange(4))


def chance_state(chance, program):
    """A state of the program, often near the bounds of its numbers."""
    code = sum(1 for row in program if row[1] != "data")
    row = chance.randrange(code)
    waiting, beat, asked = 0, chance.randrange(5), chance.choice((0, 0, 1))
    if row > 0 and program[row - 1][1] == "wait" and chance.randrange(2):
        waiting, beat, asked = 1, 1, 0
    doors = [chance.randrange(256) for _ in range(20)]
    doors[1] = chance.choice((0, 0, 0, 1))
    return (row, chance_byte(chance), chance_byte(chance), chance.randrange(2), chance.randrange(2),
            tuple(chance_byte(chance) for _ in range(16)), tuple(doors), chance.randrange(64),
            chance.choice((0, 1, 30, 4080, chance.randrange(4081))), beat, waiting, asked)


def chance_byte(chance):
    """A byte, often 0, 1, 127, 128 or 255."""
    return chance.choice((0, 1, 127, 128, 255, chance.randrange(256), chance.randrange(256)))

"""Programs and other things that several tests use."""

FIELDS = ("row", "a", "x", "zero", "carry", "memory", "doors", "meetings", "timer", "beat", "waiting", "asked")

LEAST = (("a", "go", "a"),)

# Each deed once at least; 36 rows, 60 bytes long.
EVERY = (
    ("begin", "set", 255),
    ("", "test", 0),
    ("", "setx", 7),
    ("", "get", 0),
    ("", "put", 15),
    ("", "add", 1),
    ("", "sub", 2),
    ("", "mask", 3),
    ("", "flip", 4),
    ("", "getx", 5),
    ("", "putx", 6),
    ("", "lay", 7),
    ("", "take", 8),
    ("", "half", None),
    ("", "twice", None),
    ("", "up", None),
    ("", "down", None),
    ("", "tox", None),
    ("unused", "toa", None),
    ("", "rest", None),
    ("", "idle", None),
    ("", "wait", None),
    ("", "ifz", "near"),
    ("", "ifn", "end"),
    ("near", "ifc", "end"),
    ("", "ifd", "begin"),
    ("", "at", "table"),
    ("", "door", 19),
    ("", "door", 0),
    ("", "eye", 5),
    ("", "eye", 0),
    ("", "go", "begin"),
    ("end", "go", "end"),
    ("", "data", 9),
    ("table", "data", 255),
    ("", "data", 0),
)

LINES = (
    ("frame", "set", 3),
    ("", "door", 2),
    ("again", "wait", None),
    ("", "down", None),
    ("", "ifn", "again"),
    ("", "go", "frame"),
)


# Programs that are in time, by point 24.
WAITS = (("a", "wait", None), ("", "go", "a"))
# Lines counted down by x.
DOWN = (("a", "setx", 3), ("b", "wait", None), ("", "down", None), ("", "ifn", "b"), ("", "go", "a"))
# Lines counted up till x goes round.
UP = (("a", "setx", 250), ("b", "wait", None), ("", "up", None), ("", "ifn", "b"), ("", "go", "a"))
# x of any number, one less and one more, with a table behind it.
ANY = (("a", "getx", 4), ("", "up", None), ("", "down", None), ("", "at", "t"), ("", "ifz", "c"), ("", "down", None),
       ("c", "wait", None), ("", "go", "a"), ("t", "data", 5), ("", "data", 6))
# An if-row whose mark is the row behind.
SAME = (("a", "setx", 2), ("", "ifz", "b"), ("b", "door", 0), ("", "wait", None), ("", "go", "a"))
TIMELY = (WAITS, DOWN, UP, ANY, SAME)


# From row 0 to row 5; from row 8 on it is not come to but by a wait, and row 11 is never come to.
BRANCH = (
    ("a", "get", 0),
    ("", "ifz", "m"),
    ("", "idle", None),
    ("", "ifc", "out"),
    ("m", "door", 2),
    ("", "rest", None),
    ("", "wait", None),
    ("", "go", "a"),
    ("out", "rest", None),
    ("", "wait", None),
    ("", "go", "a"),
    ("never", "go", "never"),
    ("", "data", 4),
)
# Rows 1 to 3 go round.
LOOP = (
    ("a", "rest", None),
    ("b", "rest", None),
    ("", "idle", None),
    ("", "ifz", "b"),
    ("", "rest", None),
    ("", "wait", None),
    ("", "go", "a"),
)
# Row 0 goes round by itself.
SELF = (("a", "ifz", "a"), ("", "rest", None), ("", "go", "a"))


def straight(lines):
    """A frame of so many lines, one behind another; its end is asked for in the last one."""
    return (("a", "rest", None),) + (("", "wait", None),) * (lines - 1) + (
        ("", "door", 0), ("", "wait", None), ("", "go", "a"))


def by_x(lines):
    """A frame of so many lines, all but the last counted down by x."""
    return (("a", "setx", lines - 1), ("b", "wait", None), ("", "down", None), ("", "ifn", "b"), ("", "door", 0),
            ("", "wait", None), ("", "go", "a"))


# Programs with frames of one line.
GROUND = (("a", "set", 9), ("", "door", 2), ("", "door", 0), ("", "wait", None), ("", "go", "a"))
# One line, ended by either of two waits.
EITHER = (("a", "eye", 2), ("", "ifz", "m"), ("", "door", 0), ("", "wait", None), ("", "go", "a"), ("m", "idle", None),
          ("", "door", 0), ("", "rest", None), ("", "wait", None), ("", "go", "a"))
# Two lines by branches; the end is asked for once or twice.
EYES = (("", "rest", None), ("a", "eye", 0), ("", "ifz", "m"), ("", "wait", None), ("", "go", "n"), ("m", "eye", 1),
        ("", "wait", None), ("n", "test", 3), ("", "ifc", "o"), ("", "door", 0), ("o", "rest", None), ("", "door", 0),
        ("", "wait", None), ("", "go", "a"), ("", "data", 7))
# Six lines by two loops up and down, ended by either of two waits, with a row that is never come to.
LOOPS = (("a", "setx", 254), ("b", "wait", None), ("", "up", None), ("", "ifn", "b"), ("", "eye", 0),
         ("", "ifz", "d"), ("", "setx", 3), ("c", "wait", None), ("", "down", None), ("", "ifn", "c"),
         ("", "door", 0), ("", "wait", None), ("", "go", "a"), ("d", "wait", None), ("", "wait", None),
         ("", "wait", None), ("", "door", 0), ("", "wait", None), ("", "go", "a"), ("never", "go", "never"))
# Each with the lines of its frames.
WHOLE = ((GROUND, 1), (EITHER, 1), (EYES, 2), (LOOPS, 6), (straight(1), 1), (straight(3), 3), (by_x(5), 5))


def rests(count):
    """A program with so many rows: rests and a go to itself."""
    return (("", "rest", None),) * (count - 1) + (("end", "go", "end"),)


def marked(count):
    """A program with so many rows, each of which is led to: each goes to the one behind, the last to the first."""
    names = [a + b for a in "zyxwvutsrq" for b in "abcdefghijkl"][:count]
    return tuple((names[k], "go", names[(k + 1) % count]) for k in range(count))


def tabled(count):
    """A program with an at, a go to itself and so many table rows behind."""
    code = (("", "at", "table"), ("stay", "go", "stay"))
    return code + (("table", "data", 0),) + tuple(("", "data", k % 256) for k in range(1, count))


PROGRAMS = (LEAST, EVERY, LINES, rests(2), rests(120), marked(2), marked(27), marked(60), tabled(1), tabled(118))


def deep(depth, wrap, inner):
    """The inner thing wrapped so many times."""
    thing = inner
    for _ in range(depth):
        thing = wrap(thing)
    return thing


def anything():
    """Things of all the kinds that may be handed in as anything; none of them is a program, a state or numbers."""
    wraps = (lambda x: (x,), lambda x: [x], lambda x: {"a": x}, lambda x: {0: x}, lambda x: ("", x, None),
             lambda x: (x, x), lambda x: {None: (x, [x])})
    plain = [None, True, False, -1, 16, 20, 256, 10 ** 30, -10 ** 30, 10 ** 5000, " ", "A", "a\n", "\n", "\n\n",
             "abcdefghi", "a b", "a1", "Go", "go ", "~", "set get", "1" * 5000, "a" * 5000]
    holders = [[], {}, (), [()], ((),), ([],), ({},), {(): ()}, {(1, 2): [3]}, [None], (None,), (True,), ("a",),
               ["a"], {"a": "a"}, ["", "go", "a"], [("a", "go", "a")], {0: ("a", "go", "a")}, (1, 2, 3, 4),
               (("", "set"),), [1, [2, (3, {"b": [4]})]]]
    nested = [deep(20, wrap, inner) for wrap in wraps[:5] for inner in (None, 5, "a", ("a", "go", "a"))]
    nested += [deep(8, wrap, inner) for wrap in wraps[5:] for inner in (None, True, "go")]
    return plain + holders + nested


def with_item(items, at, item):
    """The tuple with another item at one place."""
    return items[:at] + (item,) + items[at + 1:]


def with_row(program, at, row):
    """The program with another row at one place."""
    return with_item(program, at, row)


def with_part(program, at, part, thing):
    """The program with another mark (0), deed (1) or value (2) in one row."""
    return with_item(program, at, with_item(program[at], part, thing))


def changed(state, **fields):
    """The state with some fields changed."""
    for name, thing in fields.items():
        state = with_item(state, FIELDS.index(name), thing)
    return state


def doors_with(held):
    """Doors that hold 0 but for the told ones."""
    return tuple(held.get(door, 0) for door in range(20))


def lengths_of(program):
    """How long each row is, by the table of point 4."""
    single = ("half", "twice", "up", "down", "tox", "toa", "rest", "idle", "wait", "data")
    return [1 if row[1] in single else 2 for row in program]


def bases_of(program):
    """Bases with room: the first, some in between, and the last."""
    last = 256 - sum(lengths_of(program))
    return sorted({0, 1, last // 3, last // 2, last - 1, last})


def code_of(program):
    """How many bytes of the program's numbers are no table rows."""
    return sum(long for row, long in zip(program, lengths_of(program)) if row[1] != "data")

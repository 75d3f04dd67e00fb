"""Rows and frames by the words of points 15 to 19, written apart from the program, to hold it against."""

from beamrows.places import colour, meetings

BEATS = {"set": 2, "test": 2, "setx": 2, "get": 3, "put": 3, "add": 3, "sub": 3, "mask": 3, "flip": 3, "getx": 3,
         "putx": 3, "lay": 4, "take": 4, "half": 2, "twice": 2, "up": 2, "down": 2, "tox": 2, "toa": 2, "rest": 2,
         "idle": 3, "wait": 2, "go": 3, "ifz": 2, "ifn": 2, "ifc": 2, "ifd": 2, "at": 4, "door": 3, "eye": 3}
SHORT = ("half", "twice", "up", "down", "tox", "toa", "rest", "idle", "wait", "data")
IFS = {"ifz": ("zero", 1), "ifn": ("zero", 0), "ifc": ("carry", 1), "ifd": ("carry", 0)}


class TooLong(Exception):
    """The frame would have a 41st line."""


def place_of(program, base, row):
    """The address of a row."""
    return base + sum(1 if deed in SHORT else 2 for mark, deed, value in program[:row])


def marked(program, mark):
    """The number of the row that bears the mark."""
    for number, row in enumerate(program):
        if row[0] == mark:
            return number
    raise AssertionError(mark)


def other_page(one, two):
    """1 where the addresses are on unlike pages."""
    return int(one >> 5 != two >> 5)


def row_by_words(program, base, state, told):
    """What deed_done should tell."""
    here = dict(zip(("row", "a", "x", "zero", "carry"), state))
    memory = list(state[5])
    mark, deed, value = program[here["row"]]
    a, x = here["a"], here["x"]
    beats = BEATS[deed]
    follow = here["row"] + 1
    sets = {}
    if deed == "set":
        sets["a"] = value
    elif deed == "setx":
        sets["x"] = value
    elif deed == "test":
        here["zero"], here["carry"] = int(a == value), int(a >= value)
    elif deed == "get":
        sets["a"] = memory[value]
    elif deed == "put":
        memory[value] = a
    elif deed == "add":
        here["carry"], sets["a"] = divmod(a + memory[value], 256)
    elif deed == "sub":
        borrow, sets["a"] = divmod(a - memory[value], 256)
        here["carry"] = 1 + borrow
    elif deed == "mask":
        sets["a"] = a & memory[value]
    elif deed == "flip":
        sets["a"] = (a | memory[value]) - (a & memory[value])
    elif deed == "getx":
        sets["x"] = memory[value]
    elif deed == "putx":
        memory[value] = x
    elif deed == "lay":
        memory[(value + x) & 15] = a
    elif deed == "take":
        sets["a"] = memory[(value + x) & 15]
    elif deed == "half":
        sets["a"], here["carry"] = divmod(a, 2)
    elif deed == "twice":
        here["carry"], sets["a"] = divmod(a + a, 256)
    elif deed == "up":
        sets["x"] = 0 if x == 255 else x + 1
    elif deed == "down":
        sets["x"] = 255 if x == 0 else x - 1
    elif deed == "tox":
        sets["x"] = a
    elif deed == "toa":
        sets["a"] = x
    elif deed == "eye":
        sets["a"] = told
    elif deed == "go":
        follow = marked(program, value)
    elif deed in IFS:
        name, wanted = IFS[deed]
        if here[name] == wanted:
            there = marked(program, value)
            beats += 1 + other_page(place_of(program, base, follow), place_of(program, base, there))
            follow = there
    elif deed == "at":
        table = [row[2] for row in program[marked(program, value):]]
        sets["a"] = (table + [0] * 256)[x]
        first = place_of(program, base, marked(program, value))
        beats += other_page(first, first + x)
    for name, number in sets.items():
        here[name] = number
        here["zero"] = int(number == 0)
    return (follow, here["a"], here["x"], here["zero"], here["carry"], tuple(memory), beats)


class Played:
    """A frame as it is played, with one count of beats from the begin of line 0."""

    def __init__(self, state, hands):
        self.processor = state[:6]
        self.doors = list(state[6])
        self.met, self.timer, self.now, self.waiting, self.asked = state[7:]
        self.hands = hands
        self.end = None
        self.picture, self.writes, self.rows = {}, [], []

    def beat(self, deed):
        """One beat, and what is done at its end."""
        place = 2 * (self.now % 32 - 8)
        if place >= 0:
            assert self.end is None
            for at in (place, place + 1):
                self.picture[self.now // 32, at] = colour(tuple(self.doors), at)
                self.met |= meetings(tuple(self.doors), at)
        if self.timer:
            self.timer -= 1
        deed()
        self.now += 1
        if self.now % 32 == 0 and self.end is None:
            if self.asked:
                self.asked, self.end = 0, self.now
            elif self.now == 40 * 32:
                raise TooLong

    def rest_of_line(self):
        """The beats that are left of a line."""
        while self.now % 32:
            self.beat(lambda: None)

    def row(self, program, base):
        """One row, whole."""
        number, a = self.processor[:2]
        mark, deed, value = program[number]
        begin = self.now
        self.rows.append((number, begin // 32, begin % 32))

        def told():
            eyes = (*self.hands, self.met, -(-self.timer // 16), begin // 32)
            return eyes[value] if deed == "eye" else None

        def last():
            self.processor = row_by_words(program, base, self.processor, told())[:6]
            if deed == "door":
                self.written(value, a)

        beats = row_by_words(program, base, self.processor, 0)[6]
        for _ in range(beats - 1):
            self.beat(lambda: None)
        self.beat(last)
        if deed == "wait":
            if self.end is None:
                self.rest_of_line()
            elif self.now > self.end:
                self.waiting = 1

    def written(self, door, byte):
        """A write at the end of the beat that is now."""
        self.doors[door] = byte
        self.writes.append((self.now + 1, door, byte))
        if door == 0:
            self.asked = 1
        if door == 18:
            self.met = 0
        if door == 19:
            self.timer = 16 * byte


def frame_by_words(program, base, state, hands):
    """What frame should tell."""
    played = Played(state, hands)
    if played.waiting:
        played.rest_of_line()
        played.waiting = 0
    while played.end is None:
        played.row(program, base)
    lines = played.end // 32
    picture = tuple(tuple(played.picture[line, place] for place in range(48)) for line in range(lines))
    writes = tuple((at // 32, at % 32, door, byte) for at, door, byte in played.writes if at < played.end)
    behind = (*played.processor, tuple(played.doors), played.met, played.timer, played.now - played.end,
              played.waiting, played.asked)
    return (picture, (lines, state[6], writes), tuple(played.rows), behind)

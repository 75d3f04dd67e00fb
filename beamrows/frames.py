"""Frames: the rows of a program and the beam, side by side, beat by beat."""

from beamrows.beam import LINE_BEATS, MOST_LINES, places_between, with_door
from beamrows.errors import NoFrame
from beamrows.pages import addresses
from beamrows.places import colour, meetings
from beamrows.programs import is_wait
from beamrows.steps import done, row_beats

END_DOOR = 0
MEETINGS_DOOR = 18
TIMER_DOOR = 19
TIMER_STEP = 16

MEETINGS_EYE = 3
TIMER_EYE = 4


class Beam:
    """The beam in one frame: where it is, what the doors hold, what it has drawn and noted so far."""

    def __init__(self, doors, noted, timer, beat, asked):
        self.doors = doors
        self.noted = noted
        self.timer = timer
        self.line = 0
        self.beat = beat
        self.asked = asked
        # Behind the frame's end the beats are those of the next frame's line 0.
        self.ended = False
        self.drawn = [[]]
        self.writes = []
        # By doors and beat: most lines are drawn like the one above.
        self.known = {}

    def draw(self):
        """What the end of a beat does ahead of what its row does."""
        colours, met = self.seen()
        self.drawn[-1].extend(colours)
        self.noted |= met
        self.timer = max(0, self.timer - 1)

    def seen(self):
        """The colours of the beat's places, and their meetings together."""
        key = (self.beat, self.doors)
        if key not in self.known:
            places = places_between(self.beat, self.beat + 1)
            met = 0
            for place in places:
                met |= meetings(self.doors, place)
            self.known[key] = ([colour(self.doors, place) for place in places], met)
        return self.known[key]

    def step(self):
        """Go on to the next beat."""
        self.beat += 1
        if self.beat == LINE_BEATS:
            self.beat = 0
            self.end_line()

    def end_line(self):
        """Begin another line, or end the frame where that was asked for."""
        if self.asked == 1:
            self.asked = 0
            self.ended = True
            return
        if self.line + 1 == MOST_LINES:
            raise NoFrame("the frame would have a 41st line")
        self.line += 1
        self.drawn.append([])

    def write(self, door, byte):
        """Let the door hold the byte, and do what else that door does."""
        self.doors = with_door(self.doors, door, byte)
        if door == END_DOOR:
            self.asked = 1
        elif door == MEETINGS_DOOR:
            self.noted = 0
        elif door == TIMER_DOOR:
            self.timer = TIMER_STEP * byte

    def note_write(self, door, byte):
        """Put a write to the log, if this beat, from which on it holds, is one of the frame."""
        if not self.ended:
            self.writes.append((self.line, self.beat, door, byte))

    def pass_beats(self, count):
        """Let so many beats pass in which no row is done."""
        for number in range(count):
            self.draw()
            self.step()

    def pass_line(self):
        """Let all beats pass that are left of the line."""
        self.pass_beats(LINE_BEATS - self.beat)


def frame(program, base, state, hands):
    """One frame from a state: (picture, log, rows, state behind)."""
    starts = addresses(program, base)
    doors, noted, timer, beat, waiting, asked = state[6:]
    beam = Beam(doors, noted, timer, beat, asked)
    if waiting == 1:
        beam.pass_line()
        waiting = 0
    processor = state[:6]
    rows = []
    while not beam.ended:
        row = processor[0]
        rows.append((row, beam.line, beam.beat))
        processor = play_row(beam, program, starts, processor, hands)
        if is_wait(program, row):
            waiting = wait_on(beam)
    picture = tuple([tuple(colours) for colours in beam.drawn])
    log = (len(picture), doors, tuple(beam.writes))
    behind = processor + (beam.doors, beam.noted, beam.timer, beam.beat, waiting, beam.asked)
    return (picture, log, tuple(rows), behind)


def play_row(beam, program, starts, processor, hands):
    """Do the processor's row whole; what the processor is behind it."""
    mark, deed, value = program[processor[0]]
    line = beam.line
    beam.pass_beats(row_beats(program, starts, processor) - 1)
    beam.draw()
    told = eye_tells(beam, value, hands, line) if deed == "eye" else 0
    if deed == "door":
        beam.write(value, processor[1])
    beam.step()
    if deed == "door":
        beam.note_write(value, processor[1])
    return done(program, processor, told)


def eye_tells(beam, eye, hands, line):
    """What the eye tells at the end of a row that began in the line."""
    if eye < MEETINGS_EYE:
        return hands[eye]
    if eye == MEETINGS_EYE:
        return beam.noted
    if eye == TIMER_EYE:
        return (beam.timer + TIMER_STEP - 1) // TIMER_STEP
    return line


def wait_on(beam):
    """Wait for the line's end behind the two beats of a wait; 1 where the next frame is to begin with that."""
    if beam.beat == 0:
        return 0
    if beam.ended:
        return 1
    beam.pass_line()
    return 0

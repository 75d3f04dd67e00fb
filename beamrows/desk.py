"""A desk: frames that are played one by one, looked at and taken back."""

from beamrows.errors import NoState, NoStep, TooMany
from beamrows.frames import frame
from beamrows.pages import need_room
from beamrows.runs import is_in_time
from beamrows.states import is_state, start

MOST_FRAMES = 60


class Desk:
    """A program at a base, and the frames that were played of it."""

    def __init__(self, program, base):
        need_room(program, base)
        self.program = program
        self.base = base
        self.begin = start(program)
        # Of each frame its log, its rows and the state behind it.
        self.played = []

    def frame(self, hands):
        """Play the next frame; its picture."""
        if len(self.played) >= MOST_FRAMES:
            raise TooMany("at most 60 frames are kept")
        picture, log, rows, state = frame(self.program, self.base, self.state(), hands)
        self.played.append((log, rows, state))
        return picture

    def state(self):
        """The state with which the next frame begins."""
        return self.played[-1][2] if self.played else self.begin

    def frames(self):
        """How many frames were played and not taken back."""
        return len(self.played)

    def log(self, k):
        """The log of the k-th frame, from 0 on."""
        if not 0 <= k < len(self.played):
            raise NoStep("no such frame was played")
        return self.played[k][0]

    def back(self):
        """Take the last frame back."""
        if not self.played:
            raise NoStep("there is no frame to take back")
        self.played.pop()

    def go(self, thing):
        """Let the next frame begin with a state, and forget all frames."""
        if not is_state(self.program, thing):
            raise NoState("it is no state of the program")
        self.begin = thing
        self.played = []

    def in_time(self):
        """Whether the frames are in time."""
        return is_in_time(self.program, [rows for log, rows, state in self.played])

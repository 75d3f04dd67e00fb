import copy
import random
import unittest

from beamrows.errors import NoFrame, NoRoom
from beamrows.frames import frame
from beamrows.pictures import plain, quick, right_log
from beamrows.states import is_state, start
from tests.chance import chance_base, chance_hands, chance_program, chance_state
from tests.model import TooLong, frame_by_words
from tests.samples import EVERY, FIELDS, LEAST, PROGRAMS, bases_of, changed, doors_with, lengths_of, with_item

NO_HANDS = (0, 0, 0)
# Thing one and the wall meet at place 10, which is drawn in beat 13.
MEETING = doors_with({4: 4, 8: 10, 10: 128, 2: 5, 3: 6, 12: 7})
MEETING_BEAT = 13


def pad(beats):
    """Rows that do nothing, of so many beats together: 0, or 2 and more."""
    idles = beats % 2
    return (("", "idle", None),) * idles + (("", "rest", None),) * ((beats - 3 * idles) // 2)


def looped(*rows):
    """A program with these rows, and a go to the first one behind them."""
    first = ("again",) + rows[0][1:]
    return (first,) + tuple(rows[1:]) + (("", "go", "again"),)


def then(*rows):
    """A program with these rows, and rests and a go to itself behind them, which go on for ever."""
    return tuple(rows) + (("stay", "rest", None), ("", "go", "stay"))


class FrameCase(unittest.TestCase):
    def play(self, program, base=0, hands=NO_HANDS, **fields):
        """What frame tells from the start with these fields, held against the words of the document."""
        state = changed(start(program), **fields)
        self.assertIs(is_state(program, state), True)
        told = frame(program, base, state, hands)
        self.check_kinds(program, told)
        self.assertEqual(told, frame_by_words(program, base, state, hands))
        self.assertEqual(frame(program, base, state, hands), told)
        return told

    def check_kinds(self, program, told):
        self.assertIs(told.__class__, tuple)
        picture, log, rows, behind = told
        self.assertIs(right_log(log), True)
        self.assertEqual(picture, plain(log))
        self.assertEqual(picture, quick(log))
        self.assertIs(rows.__class__, tuple)
        for row in rows:
            self.assertEqual([row.__class__] + [part.__class__ for part in row], [tuple] + [int] * 3)
        self.assertIs(is_state(program, behind), True)

    def line(self, program, **fields):
        """The same where the frame ends with line 0, since its end is asked for already."""
        told = self.play(program, asked=1, **fields)
        self.assertEqual(len(told[0]), 1)
        return told

    def behind(self, told):
        """The state behind, by its fields' names."""
        return dict(zip(FIELDS, told[3]))


class OrdinaryTest(FrameCase):
    def test_one_line_by_hand(self):
        program = looped(("", "set", 9), ("", "door", 2), ("", "set", 4), *pad(3), ("", "door", 2), ("", "door", 0),
                         ("", "wait", None))
        picture, log, rows, behind = self.play(program)
        self.assertEqual(rows, ((0, 0, 0), (1, 0, 2), (2, 0, 5), (3, 0, 7), (4, 0, 10), (5, 0, 13), (6, 0, 16)))
        self.assertEqual(log, (1, (0,) * 20, ((0, 5, 2, 9), (0, 13, 2, 4), (0, 16, 0, 4))))
        self.assertEqual(picture, ((9,) * 10 + (4,) * 38,))
        self.assertEqual(behind, (7, 4, 0, 0, 0, (0,) * 16, doors_with({0: 4, 2: 4}), 0, 0, 0, 0, 0))

    def test_lines_by_hand(self):
        # Three lines by a count in x, each with its own ground.
        program = (("", "setx", 3), ("more", "toa", None), ("", "door", 2), ("", "down", None), ("", "wait", None),
                   ("", "ifn", "more"), ("", "door", 0), ("stay", "wait", None), ("", "go", "stay"))
        picture, log, rows, behind = self.play(program)
        self.assertEqual(log, (4, (0,) * 20, ((0, 7, 2, 3), (1, 8, 2, 2), (2, 8, 2, 1), (3, 5, 0, 1))))
        self.assertEqual(picture, ((3,) * 48, (2,) * 48, (1,) * 48, (1,) * 48))
        self.assertEqual(rows[:6], ((0, 0, 0), (1, 0, 2), (2, 0, 4), (3, 0, 7), (4, 0, 9), (5, 1, 0)))
        self.assertEqual(rows[-4:], ((4, 2, 10), (5, 3, 0), (6, 3, 2), (7, 3, 5)))
        self.assertEqual((behind[0], behind[9]), (8, 0))

    def test_the_end_of_a_frame_is_no_end_for_rows(self):
        told = self.play(then(("", "door", 0)))
        # The last rest begins with beat 28, the go behind it has its last beat in the next frame.
        self.assertEqual(told[2][-2:], ((1, 0, 28), (2, 0, 30)))
        self.assertEqual(len(told[0]), 1)
        self.assertEqual((self.behind(told)["row"], self.behind(told)["beat"]), (1, 1))

    def test_rows_that_end_with_the_line(self):
        told = self.line(then(*pad(32)))
        self.assertEqual(told[2][-1], (15, 0, 30))
        self.assertEqual((self.behind(told)["row"], self.behind(told)["beat"]), (16, 0))

    def test_a_row_over_a_lines_end_goes_on_in_the_next(self):
        told = self.play(then(*pad(30), ("", "door", 2), ("", "door", 0)), a=8)
        self.assertEqual(told[2][15:18], ((15, 0, 30), (16, 1, 1), (17, 1, 4)))
        self.assertEqual(told[1][2], ((1, 1, 2, 8), (1, 4, 0, 8)))
        self.assertEqual(told[0], ((0,) * 48, (8,) * 48))

    def test_what_is_handed_in_stays_as_it_was(self):
        program = then(*pad(30), ("", "door", 2), ("", "door", 0))
        state = changed(start(program), a=4, doors=MEETING)
        kept = copy.deepcopy((program, state))
        frame(program, 3, state, NO_HANDS)
        self.assertEqual((program, state), kept)


class WaitTest(FrameCase):
    def test_each_beat_with_which_a_wait_begins(self):
        for beat in (0,) + tuple(range(2, 32)):
            program = then(*pad(beat), ("", "wait", None), ("", "door", 0))
            wait = len(pad(beat))
            told = self.play(program)
            line = 2 if beat == 31 else 1
            with self.subTest(beat=beat):
                self.assertEqual(told[2][wait:wait + 2], ((wait, 0, beat), (wait + 1, line, 0)))
                self.assertEqual(told[1][2], ((line, 3, 0, 0),))
                self.assertEqual(len(told[0]), line + 1)

    def test_a_wait_in_the_last_line(self):
        for beat in (0, 29, 30, 31):
            told = self.line(then(*pad(beat), ("", "wait", None)))
            wait = len(pad(beat))
            behind = self.behind(told)
            with self.subTest(beat=beat):
                self.assertEqual(told[2][-1], (wait, 0, beat))
                self.assertEqual(behind["row"], wait + 1)
                self.assertEqual((behind["beat"], behind["waiting"]), (1, 1) if beat == 31 else (0, 0))

    def test_a_wait_in_the_last_of_two_lines(self):
        for beat, waiting in ((28, 0), (29, 0), (30, 0), (31, 1)):
            told = self.play(then(*pad(30), ("", "door", 0), *pad(beat - 1), ("", "wait", None)))
            # The write holds from beat 1 of line 1 on.
            self.assertEqual(told[1], (2, (0,) * 20, ((1, 1, 0, 0),)))
            self.assertEqual(told[2][-1][1:], (1, beat))
            self.assertEqual((self.behind(told)["beat"], self.behind(told)["waiting"]), (waiting, waiting))

    def test_a_state_that_is_waiting(self):
        program = (("", "wait", None), ("now", "door", 2), ("", "door", 0), ("", "wait", None), ("", "go", "now"))
        told = self.play(program, row=1, a=8, beat=1, waiting=1, timer=100, doors=MEETING)
        self.assertEqual(told[2], ((1, 1, 0), (2, 1, 3), (3, 1, 6)))
        self.assertEqual(told[1], (2, MEETING, ((1, 3, 2, 8), (1, 6, 0, 8))))
        behind = self.behind(told)
        # 31 beats of line 0 are left, and 32 of line 1.
        self.assertEqual((behind["timer"], behind["meetings"]), (100 - 63, 2))
        self.assertEqual((behind["row"], behind["beat"], behind["waiting"]), (4, 0, 0))

    def test_a_wait_over_the_frames_end_and_what_comes_of_it(self):
        program = looped(*pad(31), ("", "wait", None), ("", "door", 0))
        first = self.play(program, asked=1, timer=50)
        behind = self.behind(first)
        self.assertEqual((behind["timer"], behind["beat"], behind["waiting"]), (50 - 33, 1, 1))
        second = frame(program, 0, first[3], NO_HANDS)
        self.assertEqual(second[2][0], (len(pad(31)) + 1, 1, 0))
        self.assertEqual(second[3][8], 0)
        self.assertEqual(second, frame_by_words(program, 0, first[3], NO_HANDS))

    def test_two_waits_behind_one_another(self):
        told = self.play(then(("", "wait", None), ("", "wait", None), ("", "door", 0)))
        self.assertEqual(told[2][:3], ((0, 0, 0), (1, 1, 0), (2, 2, 0)))


class BeginTest(FrameCase):
    def test_each_beat_of_a_state(self):
        program = then(("", "door", 2))
        for beat in range(5):
            told = self.line(program, a=8, beat=beat, timer=200, doors=MEETING)
            with self.subTest(beat=beat):
                self.assertEqual(told[2][:2], ((0, 0, beat), (1, 0, beat + 3)))
                self.assertEqual(told[1], (1, MEETING, ((0, beat + 3, 2, 8),)))
                # The beats ahead are not played again.
                played = 32 + self.behind(told)["beat"] - beat
                self.assertEqual(self.behind(told)["timer"], 200 - played)

    def test_the_log_begins_with_the_states_doors(self):
        for beat in range(5):
            doors = tuple(range(200, 220))
            told = self.line(then(*pad(2)), beat=beat, doors=doors)
            self.assertEqual(told[1], (1, doors, ()))
            self.assertEqual(told[3][6], doors)

    def test_asked_already(self):
        told = self.play(then(*pad(2)), asked=1)
        self.assertEqual(len(told[0]), 1)
        self.assertEqual(self.behind(told)["asked"], 0)


class WriteTest(FrameCase):
    def test_the_beat_from_which_a_write_holds(self):
        for beat in (0,) + tuple(range(2, 32)):
            told = self.play(then(*pad(beat), ("", "door", 2), ("", "door", 0)), a=8)
            at = (0, beat + 3) if beat < 29 else (1, beat - 29)
            old = 48 * at[0] + 2 * max(0, at[1] - 8)
            with self.subTest(beat=beat):
                self.assertEqual(told[1][2][0], at + (2, 8))
                whole = sum(told[0], ())
                self.assertEqual(whole, (0,) * old + (8,) * (len(whole) - old))

    def test_the_last_beat_of_a_line(self):
        told = self.play(then(*pad(29), ("", "door", 2), ("", "door", 0)), a=8)
        self.assertEqual(told[1], (2, (0,) * 20, ((1, 0, 2, 8), (1, 3, 0, 8))))

    def test_the_last_beat_of_the_frame_and_behind_it(self):
        for beat, behind_beat in ((29, 0), (30, 1), (31, 2)):
            for door in (1, 2, 17):
                told = self.line(then(*pad(beat), ("", "door", door)), a=8, doors=MEETING)
                behind = self.behind(told)
                with self.subTest(beat=beat, door=door):
                    self.assertEqual(told[1], (1, MEETING, ()))
                    self.assertEqual(told[2][-1], (len(pad(beat)), 0, beat))
                    self.assertEqual(behind["doors"], with_item(MEETING, door, 8))
                    self.assertEqual((behind["beat"], behind["asked"]), (behind_beat, 0))

    def test_the_last_beat_that_holds_in_the_frame(self):
        told = self.line(then(*pad(28), ("", "door", 2)), a=8)
        self.assertEqual(told[1], (1, (0,) * 20, ((0, 31, 2, 8),)))
        self.assertEqual(told[0], ((0,) * 46 + (8,) * 2,))

    def test_asking_with_each_beat(self):
        for beat in (0,) + tuple(range(2, 32)):
            told = self.play(then(*pad(beat), ("", "door", 0)), a=8)
            with self.subTest(beat=beat):
                # Done with the line's last beat it still ends that line, and is none of the log.
                self.assertEqual(len(told[0]), 1 if beat <= 29 else 2)
                writes = {29: ()}.get(beat, ((0, beat + 3, 0, 8) if beat < 29 else (1, beat - 29, 0, 8),))
                self.assertEqual(told[1][2], writes)
                self.assertEqual(self.behind(told)["asked"], 0)
                self.assertEqual(self.behind(told)["doors"], doors_with({0: 8}))

    def test_asking_over_the_frames_end(self):
        for beat in (30, 31):
            told = self.line(then(*pad(beat), ("", "door", 0)), a=8)
            self.assertEqual(told[1], (1, (0,) * 20, ()))
            self.assertEqual(self.behind(told)["asked"], 1)
            self.assertEqual(self.behind(told)["doors"], doors_with({0: 8}))
            # The next frame ends with its first line.
            after = frame(then(*pad(beat), ("", "door", 0)), 0, told[3], NO_HANDS)
            self.assertEqual((len(after[0]), after[3][11]), (1, 0))

    def test_the_same_byte_written_again_stands_in_the_log(self):
        told = self.line(then(("", "door", 2), ("", "door", 2)), a=5, doors=MEETING)
        self.assertEqual(told[1][2], ((0, 3, 2, 5), (0, 6, 2, 5)))

    def test_each_door(self):
        for door in range(1, 20):
            told = self.line(then(*pad(12), ("", "door", door)), a=3, doors=MEETING)
            self.assertEqual(told[1][2], ((0, 15, door, 3),))
            self.assertEqual(self.behind(told)["doors"], with_item(MEETING, door, 3))


class OverTheEndTest(FrameCase):
    def test_beats_of_the_next_frame(self):
        # A row of 5 beats: at, with x on another page.
        table = (("end", "go", "end"), ("t", "data", 7))
        for beat, left in ((27, 0), (28, 1), (29, 2), (30, 3), (31, 4)):
            program = pad(beat) + (("", "at", "t"),) + table
            told = self.line(program, x=200, timer=100)
            behind = self.behind(told)
            self.assertEqual((behind["beat"], behind["timer"], behind["a"]), (left, 100 - 32 - left, 0))
            self.assertEqual(behind["row"], len(pad(beat)) + 1)

    def test_the_meetings_door(self):
        for beat in (28, 29, 30, 31):
            told = self.line(then(*pad(beat), ("", "door", 18)), doors=MEETING, meetings=32)
            self.assertEqual(self.behind(told)["meetings"], 0)
        told = self.line(then(*pad(30)), doors=MEETING, meetings=32)
        self.assertEqual(self.behind(told)["meetings"], 34)

    def test_the_timer_door(self):
        for beat in (29, 30, 31):
            told = self.line(then(*pad(beat), ("", "door", 19)), a=255, timer=7)
            self.assertEqual(self.behind(told)["timer"], 4080)
            told = self.line(then(*pad(beat), ("", "door", 19)), a=0, timer=700)
            self.assertEqual(self.behind(told)["timer"], 0)

    def test_an_eye(self):
        hands = (11, 12, 3)
        for beat in (28, 29, 30, 31):
            for timer in (0, 31, 32, 33, 34, 47, 48, 49, 50, 51, 4080):
                # The timer has fallen by each beat up to the eye's last one.
                left = (max(0, timer - beat - 3) + 15) // 16
                for eye, told_a in ((0, 11), (1, 12), (2, 3), (3, 34), (4, left), (5, 0)):
                    program = then(*pad(beat), ("", "eye", eye), *pad(6))
                    told = self.line(program, hands=hands, doors=MEETING, meetings=32, timer=timer)
                    with self.subTest(beat=beat, timer=timer, eye=eye):
                        self.assertEqual(self.behind(told)["a"], told_a)

    def test_the_eye_for_lines_tells_the_line_in_which_the_row_began(self):
        for lines in (1, 2, 3, 40):
            program = (("", "wait", None),) * (lines - 1) + pad(26) + (("", "door", 0), ("", "eye", 5), *then(*pad(4)))
            told = self.play(program)
            self.assertEqual(told[2][-1][1:], (lines - 1, 29))
            self.assertEqual(len(told[0]), lines)
            self.assertEqual(self.behind(told)["row"], len(program) - 4)
            self.assertEqual(self.behind(told)["a"], lines - 1)

    def test_the_next_frames_picture_and_log(self):
        program = looped(*pad(30), ("", "door", 2), *pad(20), ("", "door", 0))
        for fields in ({"a": 9}, {"a": 9, "doors": MEETING, "timer": 90}):
            state = changed(start(program), asked=1, **fields)
            for _ in range(3):
                told = frame(program, 0, state, NO_HANDS)
                self.check_kinds(program, told)
                self.assertEqual(told, frame_by_words(program, 0, state, NO_HANDS))
                self.assertEqual(told[1][1], state[6])
                state = told[3]
        first = frame(program, 0, changed(start(program), asked=1, a=9), NO_HANDS)
        second = frame(program, 0, first[3], NO_HANDS)
        self.assertEqual((first[3][9], first[0][0]), (1, (0,) * 48))
        self.assertEqual(second[1], (1, doors_with({2: 9}), ((0, 24, 0, 9),)))
        self.assertEqual(second[0], ((9,) * 48,))


class EyeTest(FrameCase):
    def seen(self, program, **fields):
        """What a is behind a frame of one line."""
        return self.behind(self.line(program, **fields))["a"]

    def test_the_hands(self):
        for hands in ((0, 0, 0), (1, 2, 3), (15, 14, 0), (0, 15, 1)):
            for eye in (0, 1, 2):
                told = self.line(then(("", "eye", eye)), hands=hands, a=99)
                self.assertEqual(self.behind(told)["a"], hands[eye])
                self.assertEqual(self.behind(told)["zero"], int(hands[eye] == 0))

    def test_the_line(self):
        for lines in range(1, 41):
            program = (("", "wait", None),) * (lines - 1) + (("", "eye", 5), ("", "door", 0)) + then(*pad(2))
            self.assertEqual(self.behind(self.play(program))["a"], lines - 1)

    def test_the_line_in_which_the_row_began(self):
        for beat, line in ((29, 0), (30, 0), (31, 0)):
            told = self.play(then(*pad(beat), ("", "eye", 5), ("", "put", 3), ("", "door", 0)), a=7)
            self.assertEqual(self.behind(told)["memory"][3], line)
        told = self.play(then(*pad(32), ("", "eye", 5), ("", "put", 3), ("", "door", 0)), a=7)
        self.assertEqual(self.behind(told)["memory"][3], 1)

    def test_a_waiting_state_begins_with_line_1(self):
        program = (("", "wait", None), ("", "eye", 5), ("", "door", 0)) + then(*pad(2))
        self.assertEqual(self.behind(self.play(program, row=1, beat=1, waiting=1))["a"], 1)

    def test_the_meetings_noted_beat_by_beat(self):
        for beat in range(2, 29):
            for noted in (0, 32):
                told = self.seen(then(*pad(beat), ("", "eye", 3)), doors=MEETING, meetings=noted, a=99)
                met = 2 if beat + 2 >= MEETING_BEAT else 0
                with self.subTest(beat=beat, noted=noted):
                    self.assertEqual(told, noted + met)

    def test_noted_besides_those_noted_already_bit_by_bit(self):
        self.assertEqual(self.seen(then(*pad(20), ("", "eye", 3)), doors=MEETING, meetings=2), 2)
        self.assertEqual(self.seen(then(*pad(20), ("", "eye", 3)), doors=MEETING, meetings=63), 63)

    def test_clearing_meetings(self):
        for beat in range(2, 29):
            told = self.line(then(*pad(beat), ("", "door", 18)), doors=MEETING, meetings=32, a=1)
            # Cleared at the end of the very beat that notes it, it is gone.
            met = 2 if beat + 2 < MEETING_BEAT else 0
            with self.subTest(beat=beat):
                self.assertEqual(self.behind(told)["meetings"], met)

    def test_a_write_ahead_of_the_meeting(self):
        for door, byte in ((10, 0), (4, 0), (8, 12), (1, 1)):
            for beat in range(2, 29):
                told = self.line(then(*pad(beat), ("", "door", door)), doors=MEETING, a=byte)
                # Done at the end of the beat, it holds from the next one on.
                with self.subTest(door=door, beat=beat):
                    self.assertEqual(self.behind(told)["meetings"], 0 if beat + 3 <= MEETING_BEAT else 2)

    def test_none_in_beats_0_to_7(self):
        told = self.line(then(("", "door", 1)), doors=MEETING, a=1, beat=4)
        self.assertEqual(self.behind(told)["meetings"], 0)
        everything = (255,) + (0,) + (255,) * 18
        told = self.line(then(*pad(5), ("", "door", 1)), doors=everything, a=1)
        self.assertEqual(self.behind(told)["meetings"], 0)
        told = self.line(then(*pad(6), ("", "door", 1)), doors=everything, a=1)
        self.assertNotEqual(self.behind(told)["meetings"], 0)

    def test_the_timer_beat_by_beat(self):
        for timer in (0, 1, 2, 15, 16, 17, 31, 32, 33, 4079, 4080):
            for beat in range(2, 29):
                told = self.seen(then(*pad(beat), ("", "eye", 4)), timer=timer, a=99)
                left = max(0, timer - (beat + 3))
                with self.subTest(timer=timer, beat=beat):
                    self.assertEqual(told, (left + 15) // 16)

    def test_setting_the_timer(self):
        for a in (0, 1, 2, 255):
            for more in (0,) + tuple(range(2, 20)):
                program = then(*pad(2), ("", "door", 19), *pad(more), ("", "eye", 4), ("", "put", 0))
                told = self.line(program, timer=1000, a=a)
                left = max(0, 16 * a - more - 3)
                self.assertEqual(self.behind(told)["memory"][0], (left + 15) // 16)
                whole = 32 + self.behind(told)["beat"]
                self.assertEqual(self.behind(told)["timer"], max(0, 16 * a - (whole - 5)))

    def test_the_timer_stays_at_0(self):
        for timer in (0, 1, 31, 32, 33):
            told = self.line(then(*pad(2)), timer=timer)
            left = max(0, timer - 32 - self.behind(told)["beat"])
            self.assertEqual(self.behind(told)["timer"], left)


class RefusalTest(FrameCase):
    def test_40_lines_and_no_41st(self):
        for lines in (1, 39, 40):
            program = (("", "wait", None),) * (lines - 1) + (("", "door", 0),) + then(*pad(2))
            self.assertEqual(len(self.play(program)[0]), lines)
        for lines in (41, 60):
            program = (("", "wait", None),) * (lines - 1) + (("", "door", 0),) + then(*pad(2))
            with self.assertRaises(NoFrame):
                frame(program, 0, start(program), NO_HANDS)

    def test_asking_at_the_end_of_line_39(self):
        ahead = (("", "wait", None),) * 39
        for beat in (0, 2, 28, 29):
            self.assertEqual(len(self.play(ahead + pad(beat) + (("", "door", 0),) + then(*pad(2)))[0]), 40)
        for beat in (30, 31, 32):
            program = ahead + pad(beat) + (("", "door", 0),) + then(*pad(2))
            with self.assertRaises(NoFrame):
                frame(program, 0, start(program), NO_HANDS)

    def test_a_wait_begun_in_line_38_or_39_with_beat_31(self):
        ahead = (("", "wait", None),)
        for many in (38, 39):
            program = ahead * many + pad(31) + ahead + (("", "door", 0),) + then(*pad(2))
            with self.assertRaises(NoFrame):
                frame(program, 0, start(program), NO_HANDS)
        program = ahead * 37 + pad(31) + ahead + (("", "door", 0),) + then(*pad(2))
        self.assertEqual(len(self.play(program)[0]), 40)

    def test_a_program_that_never_asks(self):
        for program in (LEAST, then(*pad(2)), looped(("", "wait", None))):
            with self.assertRaises(NoFrame):
                frame(program, 0, start(program), NO_HANDS)
            with self.assertRaises(NoFrame):
                frame(program, 0, changed(start(program), beat=4), NO_HANDS)
            self.assertEqual(len(frame(program, 0, changed(start(program), asked=1), NO_HANDS)[0]), 1)

    def test_no_room_ahead_of_all(self):
        for program in PROGRAMS:
            last = 256 - sum(lengths_of(program))
            self.assertEqual(len(frame(program, last, changed(start(program), asked=1), NO_HANDS)), 4)
            for base in {last + 1, 255} - {last}:
                for asked in (0, 1):
                    with self.assertRaises(NoRoom):
                        frame(program, base, changed(start(program), asked=asked), NO_HANDS)


class ChanceTest(FrameCase):
    def same(self, program, base, state, hands):
        """What frame tells, held against the model; None where both refuse."""
        try:
            wanted = frame_by_words(program, base, state, hands)
        except TooLong:
            with self.assertRaises(NoFrame):
                frame(program, base, state, hands)
            return None
        told = frame(program, base, state, hands)
        self.check_kinds(program, told)
        self.assertEqual(told, wanted)
        return told

    def test_by_chance(self):
        chance = random.Random(19)
        played = 0
        for k in range(250):
            program = chance_program(chance, chance.choice((3, 6, 12, 30, 60)))
            base, state = chance_base(chance, program), chance_state(chance, program)
            for _ in range(3):
                with self.subTest(k):
                    told = self.same(program, base, state, chance_hands(chance))
                if told is None:
                    break
                played += 1
                state = told[3]
        self.assertGreater(played, 100)

    def test_bases_with_other_pages(self):
        for base in bases_of(EVERY):
            for row in range(33):
                state = changed(start(EVERY), row=row, asked=1, doors=MEETING, timer=300, a=3, x=40)
                self.assertIsNotNone(self.same(EVERY, base, state, (1, 2, 3)))


if __name__ == "__main__":
    unittest.main()

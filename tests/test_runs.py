import copy
import random
import unittest

from beamrows.errors import NoFrame, NoRoom
from beamrows.frames import frame
from beamrows.runs import first_unlike, is_in_time, run
from beamrows.states import start
from tests.chance import chance_base, chance_hands, chance_program
from tests.model import TooLong, frame_by_words
from tests.samples import LEAST, PROGRAMS, lengths_of

# One line a frame: its ground is the first stick's number, from beat 6 on, in later frames from beat 9 on.
STICK = (("a", "eye", 0), ("", "door", 2), ("", "door", 0), ("", "wait", None), ("", "go", "a"))
# One line more than the first stick's number; the ground is the second stick's, with the beats of STICK.
LINES = (("a", "eye", 1), ("", "door", 2), ("", "eye", 0), ("", "tox", None), ("b", "ifz", "c"), ("", "wait", None),
         ("", "down", None), ("", "go", "b"), ("c", "door", 0), ("", "wait", None), ("", "go", "a"))
# Never asks for an end once the buttons are 3.
STOPS = (("a", "eye", 2), ("", "test", 3), ("stay", "ifz", "stay"), ("", "door", 0), ("", "wait", None), ("", "go", "a"))
TALE = ((5, 6, 1), (7, 8, 2), (0, 15, 0))


def grounds(*parts):
    """A program with one line a frame: each part is a ground and the beats that pass ahead of setting it."""
    rows = []
    for ground, rests in parts:
        rows += [("", "rest", None)] * rests + [("", "set", ground), ("", "door", 2)]
    rows += [("", "door", 0), ("", "wait", None), ("", "go", "a")]
    return (("a",) + rows[0][1:],) + tuple(rows[1:])


def rooms(program):
    """The last base with room, and the first without."""
    last = 256 - sum(lengths_of(program))
    return last, last + 1


class RunTest(unittest.TestCase):
    def by_frames(self, program, base, tale, frames):
        """What a run should tell, frame by frame."""
        state, told = start(program), []
        for number in range(frames):
            hands = tale[number] if number < len(tale) else (0, 0, 0)
            told.append(frame(program, base, state, hands))
            state = told[-1][3]
        return told

    def test_each_number_of_frames(self):
        for program in (STICK, LINES):
            for tale in ((), TALE, TALE * 4, TALE * 13):
                for frames in range(1, 13):
                    told = run(program, 9, tale, frames)
                    self.assertIs(told.__class__, list)
                    self.assertEqual(len(told), frames)
                    self.assertEqual(told, self.by_frames(program, 9, tale, frames))

    def test_hands_by_hand(self):
        told = run(STICK, 0, TALE, 5)
        lines = [(5,) * 48, (5,) * 2 + (7,) * 46, (7,) * 2 + (0,) * 46, (0,) * 48, (0,) * 48]
        self.assertEqual([picture for picture, log, rows, state in told], [(line,) for line in lines])
        told = run(STICK, 0, ((9, 0, 0),), 12)
        self.assertEqual([picture[0][47] for picture, log, rows, state in told], [9] + [0] * 11)

    def test_more_hands_than_frames(self):
        self.assertEqual(run(STICK, 0, TALE, 2), run(STICK, 0, TALE[:2], 2))

    def test_each_state_is_handed_on(self):
        # The ground is one more with each frame, by what memory keeps.
        program = (("", "set", 1), ("", "put", 0), ("a", "get", 1), ("", "add", 0), ("", "put", 1), ("", "door", 2),
                   ("", "door", 0), ("", "wait", None), ("", "go", "a"))
        told = run(program, 0, (), 12)
        self.assertEqual([picture[0][47] for picture, log, rows, state in told], list(range(1, 13)))

    def test_the_list_may_be_changed(self):
        first = run(LINES, 0, TALE, 4)
        kept = copy.deepcopy(first)
        first.append(None)
        first[0] = None
        first.reverse()
        self.assertEqual(run(LINES, 0, TALE, 4), kept)

    def test_refused_where_a_frame_is(self):
        for number in range(5):
            tale = ((0, 0, 0),) * number + ((0, 0, 3),)
            for frames in range(1, 7):
                if frames > number:
                    with self.assertRaises(NoFrame):
                        run(STOPS, 0, tale, frames)
                else:
                    self.assertEqual(len(run(STOPS, 0, tale, frames)), frames)
        with self.assertRaises(NoFrame):
            run(LEAST, 0, (), 1)

    def test_no_room_ahead_of_all(self):
        for program in PROGRAMS + (STICK, LEAST):
            for base in {rooms(program)[1], 255} - {rooms(program)[0]}:
                with self.assertRaises(NoRoom):
                    run(program, base, TALE, 3)

    def test_by_chance(self):
        chance = random.Random(20)
        played = 0
        for k in range(120):
            program = chance_program(chance, chance.choice((6, 20, 60)))
            base, tale = chance_base(chance, program), tuple(chance_hands(chance) for _ in range(3))
            state, wanted = start(program), []
            try:
                for number in range(4):
                    wanted.append(frame_by_words(program, base, state, (tale + ((0, 0, 0),))[number]))
                    state = wanted[-1][3]
            except TooLong:
                with self.assertRaises(NoFrame):
                    run(program, base, tale, 4)
                continue
            played += 1
            with self.subTest(k):
                self.assertEqual(run(program, base, tale, 4), wanted)
        self.assertGreater(played, 10)


class FirstUnlikeTest(unittest.TestCase):
    def both(self, one, other, frames, told):
        """The answer, the same from both sides."""
        with self.subTest(one=one, other=other, frames=frames):
            self.assertEqual(first_unlike(one, other, frames), told)
            self.assertEqual(first_unlike(other, one, frames), told)

    def test_none(self):
        for frames in range(1, 13):
            self.both((STICK, 0, TALE), (STICK, 0, TALE), frames, None)
            self.both((STICK, 0, TALE), (STICK, 200, TALE + ((0, 0, 0),)), frames, None)
        # A write that comes later by a beat in which nothing is drawn.
        other = (("a", "eye", 0), ("", "rest", None)) + STICK[1:]
        self.both((STICK, 0, TALE), (other, 50, TALE), 1, None)
        self.both((STICK, 0, TALE), (other, 50, TALE), 2, (1, 0, 2))

    def test_the_frame(self):
        for number in range(12):
            tale = ((1, 0, 0),) * number + ((2, 0, 0),) * 3
            for frames in (1, 3, 12):
                told = (number, 0, 0 if number == 0 else 2) if number < frames else None
                self.both((STICK, 0, ((1, 0, 0),) * 20), (STICK, 0, tale), frames, told)

    def test_the_place(self):
        # The second ground's write holds from beat 10 + 2 rests on: places 4 + 4 rests and behind.
        for rests in range(9):
            one, other = grounds((3, 0), (4, rests)), grounds((3, 0), (5, rests))
            self.both((one, 0, ()), (other, 0, ()), 2, (0, 0, 4 + 4 * rests))
        for one_rests in range(9):
            for other_rests in range(9):
                one, other = grounds((3, 0), (4, one_rests)), grounds((3, 0), (4, other_rests))
                least = min(one_rests, other_rests)
                told = None if one_rests == other_rests else (0, 0, 4 + 4 * least)
                self.both((one, 0, ()), (other, 0, ()), 1, told)

    def test_the_first_place_though_a_later_one_differs_too(self):
        one, other = grounds((3, 1), (4, 2)), grounds((3, 1), (9, 2), (3, 1))
        self.both((one, 0, ()), (other, 0, ()), 3, (0, 0, 16))

    def test_the_line(self):
        for frames in (1, 5):
            self.both((LINES, 0, ((3, 4, 0),)), (LINES, 0, ((3, 5, 0),)), frames, (0, 0, 0))
            self.both((LINES, 0, ((3, 4, 0),)), (LINES, 0, ((4, 4, 0),)), frames, (0, 4, 0))
            self.both((LINES, 0, ((3, 4, 0),)), (LINES, 0, ((9, 4, 0),)), frames, (0, 4, 0))
            self.both((LINES, 0, ((1, 4, 0),)), (LINES, 0, ((9, 4, 0),)), frames, (0, 2, 0))
            # Unlike in a place and in lines: the place comes first.
            self.both((LINES, 0, ((1, 4, 0),)), (LINES, 0, ((9, 5, 0),)), frames, (0, 0, 0))
        self.both((LINES, 0, ((1, 4, 0), (7, 5, 0))), (LINES, 0, ((1, 4, 0), (8, 5, 0))), 2, (1, 8, 0))
        self.both((LINES, 0, ((1, 4, 0), (7, 5, 0))), (LINES, 0, ((1, 4, 0), (8, 6, 0))), 2, (1, 0, 2))
        self.both((LINES, 0, ((1, 4, 0), (7, 5, 0))), (LINES, 0, ((1, 4, 0), (8, 6, 0))), 1, None)

    def test_a_line_and_place_behind_equal_ones(self):
        second = (("a", "wait", None), ("", "set", 7), ("", "rest", None), ("", "rest", None), ("", "rest", None),
                  ("", "rest", None), ("", "door", 2), ("", "set", 0), ("", "door", 2), ("", "door", 0),
                  ("", "wait", None), ("", "go", "a"))
        other = second[:1] + (("", "set", 8),) + second[2:]
        self.both((second, 0, ()), (other, 0, ()), 1, (0, 1, 10))

    def test_refusals(self):
        stopping, going = (STOPS, 0, ((0, 0, 3),)), (STOPS, 0, ())
        full = (STOPS, 250, ())
        later = (STOPS, 0, ((0, 0, 0),) * 5 + ((0, 0, 3),))
        for one, other, wanted in ((stopping, going, NoFrame), (going, stopping, NoFrame), (full, going, NoRoom),
                                   (going, full, NoRoom), (stopping, full, NoFrame), (full, stopping, NoRoom),
                                   (later, full, NoFrame), (full, later, NoRoom), (later, going, NoFrame)):
            with self.assertRaises(wanted):
                first_unlike(one, other, 6)
        self.assertIsNone(first_unlike(later, going, 5))

    def test_both_are_played_whole_ahead_of_the_answer(self):
        # They differ in frame 0, but frame 2 is refused.
        program = (("a", "eye", 0), ("", "door", 2)) + (("", "eye", 2),) + STOPS[1:]
        one = (program, 0, ((1, 0, 0), (0, 0, 0), (0, 0, 3)))
        other = (program, 0, ((2, 0, 0),))
        for pair in ((one, other), (other, one)):
            self.assertEqual(first_unlike(*pair, 2), (0, 0, 0))
            with self.assertRaises(NoFrame):
                first_unlike(*pair, 3)

    def test_by_chance(self):
        chance = random.Random(21)
        found = 0
        for k in range(60):
            program = chance_program(chance, 30)
            base = chance_base(chance, program)
            tales = [tuple(chance_hands(chance) for _ in range(3)) for _ in range(2)]
            try:
                ours, theirs = [run(program, base, tale, 3) for tale in tales]
            except NoFrame:
                continue
            spots = [(number, line, place) for number in range(3) for line in range(40) for place in range(48)
                     if self.at(ours, number, line, place) != self.at(theirs, number, line, place)]
            told = first_unlike((program, base, tales[0]), (program, base, tales[1]), 3)
            found += 1
            with self.subTest(k):
                self.assertEqual(told, spots[0] if spots else None)
        self.assertGreater(found, 3)

    def at(self, played, number, line, place):
        picture = played[number][0]
        return picture[line][place] if line < len(picture) else None


class IsInTimeTest(unittest.TestCase):
    # Rows 1 and 3 are waits.
    PROGRAM = (("a", "rest", None), ("", "wait", None), ("", "rest", None), ("", "wait", None), ("", "go", "a"))

    def yes(self, *frames):
        kept = copy.deepcopy(list(frames))
        handed = list(frames)
        self.assertIs(is_in_time(self.PROGRAM, handed), True)
        self.assertEqual(handed, kept)

    def no(self, *frames):
        kept = copy.deepcopy(list(frames))
        handed = list(frames)
        self.assertIs(is_in_time(self.PROGRAM, handed), False)
        self.assertEqual(handed, kept)

    def test_no_waits(self):
        self.yes()
        self.yes(())
        self.yes((), (), ())
        self.yes(((0, 0, 0), (2, 5, 31), (4, 39, 31)))
        self.yes(((0, 0, 0),), ((2, 0, 31),), ((4, 7, 31), (0, 8, 2)))

    def test_beats_with_which_a_wait_begins(self):
        for beat in range(31):
            self.yes(((0, 0, 0), (1, 0, beat)))
            self.yes(((1, 0, beat),))
            self.yes(((0, 0, 0), (1, 0, 2), (2, 1, 0), (3, 1, beat)))
        self.no(((0, 0, 0), (1, 0, 31)))
        self.no(((1, 0, 31),))
        self.no(((0, 0, 0), (1, 0, 2), (2, 1, 0), (3, 1, 31)))
        self.no(((0, 0, 0), (1, 0, 31), (2, 2, 0), (3, 2, 2)))

    def test_the_line(self):
        self.no(((0, 0, 0), (1, 1, 0)))
        self.no(((0, 0, 0), (1, 1, 30)))
        self.no(((0, 3, 0), (1, 2, 5)))
        self.yes(((0, 7, 29), (1, 7, 30)))
        self.yes(((0, 0, 0), (1, 0, 2), (2, 1, 0), (3, 1, 2), (4, 2, 0), (0, 2, 3), (1, 2, 5)))
        self.no(((0, 0, 0), (1, 0, 2), (2, 1, 0), (3, 2, 2)))
        self.no(((0, 0, 0), (1, 0, 2), (2, 1, 0), (4, 1, 30), (0, 2, 1), (1, 2, 3)))
        # By the line in which the row behind the wait began, not by the one in which the wait was.
        self.yes(((0, 0, 0), (1, 0, 2), (2, 5, 0), (3, 5, 2)))
        self.no(((0, 0, 0), (1, 0, 2), (2, 5, 0), (3, 0, 2)))

    def test_the_first_wait_by_the_first_row(self):
        self.yes(((2, 4, 7), (0, 4, 9), (1, 4, 11)))
        self.no(((2, 4, 7), (0, 5, 9), (1, 5, 11)))
        self.yes(((1, 9, 30), (2, 10, 0), (3, 10, 30)))

    def test_waits_behind_one_another(self):
        self.yes(((1, 0, 0), (1, 1, 0), (3, 2, 30), (1, 7, 0)))
        self.no(((1, 0, 0), (1, 1, 31), (3, 2, 30)))

    def test_over_the_ends_of_frames(self):
        # The line is one of the same frame.
        self.no(((0, 0, 30),), ((1, 0, 0),))
        self.no(((0, 0, 0), (1, 0, 2), (2, 1, 0)), ((3, 1, 2),))
        self.yes(((0, 0, 0), (1, 0, 2)), ((2, 0, 0), (3, 0, 2)))
        self.yes(((0, 0, 0), (1, 0, 2)), ((2, 1, 0), (3, 1, 2)), ((4, 0, 0), (1, 0, 3)))
        self.no(((0, 0, 0), (1, 0, 2)), ((2, 1, 0), (3, 1, 2), (4, 2, 0)), ((1, 2, 3),))
        self.no(((0, 0, 0), (1, 0, 31)), ((2, 1, 0), (3, 1, 2)))

    def test_frames_without_rows(self):
        self.yes((), ((0, 0, 0), (1, 0, 2)), (), (), ((2, 0, 0), (3, 0, 2)), ())
        self.no(((0, 0, 0),), (), ((1, 0, 2),))
        self.no((), ((0, 0, 0),), ((1, 0, 2),))

    def test_the_last_wait_counts_too(self):
        self.yes(((0, 0, 0), (1, 0, 30)))
        self.no(((0, 0, 0), (1, 0, 30), (2, 1, 0), (3, 1, 31)))

    def test_runs(self):
        for program, tale, wanted in ((STICK, TALE, True), (LINES, TALE, True)):
            played = run(program, 0, tale, 6)
            self.assertIs(is_in_time(program, [rows for picture, log, rows, state in played]), wanted)
        # 28 beats of rests, a door and a wait that begins with beat 31; or less by one rest.
        for rests, wanted in ((13, True), (14, False)):
            program = (("a", "rest", None),) + (("", "rest", None),) * (rests - 1)
            program += (("", "door", 0), ("", "wait", None), ("", "wait", None), ("", "go", "a"))
            played = run(program, 0, (), 1)
            self.assertIs(is_in_time(program, [told[2] for told in played]), wanted)


if __name__ == "__main__":
    unittest.main()

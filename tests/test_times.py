import copy
import random
import unittest
from unittest import mock

from beamrows.cells import right_late, right_times
from beamrows.errors import NoFrame, NoRoom, TooMany
from beamrows.runs import is_in_time, run
from beamrows.states import start
from beamrows.steps import deed_done
from beamrows.times import judge, times_of
from tests.chance import chance_base, chance_byte, chance_game, chance_hands, chance_program
from tests.papers import least_cells, spans_of
from tests.samples import ANY, DOWN, LEAST, PROGRAMS, SAME, TIMELY, UP, WAITS, lengths_of

# With the buttons at 1 a line's rows take too long, with 2 no end is asked for.
BUTTONS = (("a", "eye", 2), ("", "test", 1), ("", "ifz", "long"), ("", "test", 2), ("", "ifz", "lost"),
           ("b", "door", 0), ("", "wait", None), ("", "go", "a"), ("long", "idle", None)) + (
    ("", "idle", None),) * 6 + (("", "go", "b"), ("lost", "wait", None), ("", "go", "lost"))
LONG, LOST, GOOD = (0, 0, 1), (0, 0, 2), (0, 0, 0)


def counting(x, rows, tail, deed="wait"):
    """A loop of so many rows by x from a number down to 0, and so many rows behind it."""
    program = [("a", "setx", x), ("b", "wait", None)] + [("", "rest", None)] * (rows - 3)
    program += [("", "down", None), ("", "ifn", "b")] + [("", deed, None)] * tail + [("", "go", "a")]
    return tuple(program)


class TimesOfTest(unittest.TestCase):
    def kept(self, program, base=0):
        """The cells of a program that is kept."""
        told = times_of(program, base)
        self.assertIs(told.__class__, tuple)
        self.assertEqual((len(told), told[0]), (2, "kept"))
        self.assertIs(right_times(program, base, told[1]), True)
        self.assertEqual(times_of(program, base), told)
        return told[1]

    def late(self, program, base=0):
        """The way of a program that is late."""
        told = times_of(program, base)
        self.assertIs(told.__class__, tuple)
        self.assertEqual((len(told), told[0]), (2, "late"))
        self.assertIs(right_late(program, base, told[1]), True)
        self.assertEqual(times_of(program, base), told)
        return told[1]

    def test_by_hand(self):
        self.assertEqual(self.kept(WAITS), (((0, 0, 1, 0, 3),), ((0, 0, 1, 0, 0),)))
        self.assertEqual(self.kept(DOWN), (
            ((0, 0, 1, 0, 7),),
            ((1, 1, 1, 5, 5), (2, 2, 1, 5, 5), (3, 3, 1, 2, 9)),
            ((1, 1, 1, 0, 0), (2, 2, 1, 0, 0), (3, 3, 1, 0, 0)),
            ((0, 0, 1, 2, 2), (1, 1, 1, 2, 2), (2, 2, 1, 2, 2)),
            ((0, 0, 1, 4, 4),),
        ))
        self.assertEqual(self.kept(SAME), (
            ((0, 0, 1, 0, 0), (2, 2, 1, 3, 3)), ((2, 2, 1, 2, 5),), ((2, 2, 1, 4, 7),), ((2, 2, 1, 7, 10),),
            ((2, 2, 1, 0, 0),)))

    def test_parts_of_x(self):
        program = (("a", "wait", None), ("", "getx", 0), ("", "up", None), ("", "down", None), ("", "set", 5),
                   ("", "go", "a"))
        told = self.kept(program)
        self.assertEqual(told[2], ((0, 255, 1, 3, 3),))
        self.assertEqual(told[3], ((0, 0, 1, 5, 5), (1, 255, 1, 5, 5)))
        self.assertEqual(told[4], ((0, 254, 1, 7, 7), (255, 255, 1, 7, 7)))
        self.assertEqual(told[5], ((0, 254, 0, 9, 9), (255, 255, 0, 9, 9)))
        self.assertEqual(told[0], ((0, 0, 1, 0, 0), (0, 254, 0, 12, 12), (255, 255, 0, 12, 12)))

    def test_if_rows_by_zero(self):
        program = (("a", "wait", None), ("", "getx", 0), ("", "ifz", "m"), ("", "go", "a"), ("m", "ifn", "n"),
                   ("", "go", "a"), ("n", "go", "a"))
        told = self.kept(program)
        self.assertEqual(told[3:], (((1, 255, 1, 5, 5),), ((0, 0, 1, 6, 6),), ((0, 0, 1, 8, 8),), ()))

    def test_rows_that_are_never_come_to_have_none(self):
        program = (("a", "wait", None), ("", "go", "a"), ("", "rest", None), ("", "go", "a"), ("", "data", 0))
        self.assertEqual(self.kept(program)[2:], ((), (), ()))

    def test_timely_programs(self):
        for program in TIMELY:
            for base in (0, 20, 27, 100):
                self.assertEqual(self.kept(program, base), least_cells(program, base))

    def test_kept_at_one_base_and_late_at_another(self):
        for deed, late in (("rest", 29), ("idle", 30)):
            # The last wait begins behind a go with 3 beats, get with 3, the if-row with 3 or 4, and rests or an idle.
            program = (("a", "get", 0), ("", "ifz", "m"), ("", "wait", None), ("", "go", "a"), ("m", deed, None)) + (
                ("", "rest", None),) * 9 + (("", "wait", None), ("", "go", "a"))
            # The row behind the if-row is at base + 4, its mark at base + 7.
            for base, more in ((0, 0), (24, 0), (25, 1), (27, 1), (28, 0), (57, 1)):
                with self.subTest(deed=deed, base=base):
                    if late + more > 30:
                        self.assertEqual(self.late(program, base)[1:], (0, 1, *range(4, 15)))
                    else:
                        self.assertEqual(max(cell[4] for cell in self.kept(program, base)[14]), late + more)

    def test_30_and_31_beats(self):
        for rests, idles, late in ((15, 0, False), (16, 0, True), (14, 1, True), (13, 1, False), (12, 2, False)):
            program = (("", "rest", None),) * rests + (("", "idle", None),) * idles
            program += (("a", "wait", None), ("", "go", "a"))
            if late:
                self.assertEqual(self.late(program)[0], 0)
            else:
                cells = self.kept(program)
                self.assertEqual(max(cell[4] for cell in cells[rests + idles]), 2 * rests + 3 * idles)

    def test_a_late_way_behind_a_wait(self):
        program = (("a", "wait", None),) + (("", "idle", None),) * 12 + (("", "wait", None), ("", "go", "a"))
        way = self.late(program)
        self.assertEqual(way, tuple(range(1, 13)))

    def test_no_wait_on_the_way(self):
        self.assertEqual(self.late(LEAST), (0,) * 12)
        self.late((("a", "rest", None), ("", "go", "a")))

    def test_a_late_way_that_x_rules_out_is_none(self):
        # x is 0 and zero tells it: the long way is never come to.
        long = (("", "idle", None),) * 12
        program = (("a", "setx", 0), ("", "ifz", "m")) + long + (("m", "wait", None), ("", "go", "a"))
        self.assertEqual(self.kept(program)[2:14], ((),) * 12)
        self.late((("a", "setx", 1),) + program[1:])
        # What set tells is nothing of x.
        self.late(program[:1] + (("", "set", 0),) + program[1:])

    def test_at_by_the_x_that_comes_up(self):
        # 13 rests and an at that takes 4 beats with x 0: the wait begins with beat 30.
        program = (("", "rest", None),) * 13 + (("", "at", "t"), ("a", "wait", None), ("", "go", "a"), ("t", "data", 1))
        self.assertEqual(self.kept(program)[14], ((0, 0, 0, 3, 30),))
        late = (("", "setx", 200),) + program[1:]
        self.late(late)

    def test_too_many_just_above_3000(self):
        for tail, many in ((9, 2999), (10, 3000), (11, 3001), (12, 3002)):
            program = counting(249, 12, tail)
            self.assertEqual(len(spans_of(program, 0)), many)
            with self.subTest(many):
                if many > 3000:
                    with self.assertRaises(TooMany):
                        times_of(program, 0)
                else:
                    self.assertEqual(sum(len(entry) for entry in self.kept(program)), many)

    def test_too_many_ahead_of_late(self):
        # Behind the loop too many beats go by.
        late = counting(249, 12, 10, "idle")
        self.assertEqual(len(spans_of(late, 0)), 3000)
        self.late(late)
        many = counting(249, 12, 11, "idle")
        self.assertEqual(len(spans_of(many, 0)), 3001)
        for refused in (times_of, lambda program, base: judge(program, base, ((),), 1)):
            with self.assertRaises(TooMany):
                refused(many, 0)

    def test_too_many_behind_a_late_way(self):
        # The late way is come to first, in row 0.
        ahead = (("", "idle", None),) * 11
        for tail, many in ((0, 3001), (1, 3002)):
            program = ahead + counting(249, 12, tail)
            self.assertEqual(len(spans_of(program, 0)), many)
            with self.assertRaises(TooMany):
                times_of(program, 0)
        self.late(ahead + counting(248, 12, 0))

    def test_far_too_many(self):
        # Any x, cut off from below by the one loop and from above by the other.
        program = (("a", "getx", 0), ("b", "wait", None), ("", "up", None), ("", "ifc", "b"), ("c", "wait", None),
                   ("", "down", None), ("", "ifc", "c"), ("", "go", "a"))
        self.assertGreater(len(spans_of(program, 0, 3000)), 3000)
        with self.assertRaises(TooMany):
            times_of(program, 0)

    def test_no_room_ahead_of_all(self):
        many = counting(255, 20, 0)
        for program in PROGRAMS + TIMELY + (many, LEAST):
            last = 256 - sum(lengths_of(program))
            for base in {last + 1, 255} - {last}:
                with self.assertRaises(NoRoom):
                    times_of(program, base)
                with self.assertRaises(NoRoom):
                    judge(program, base, (), 1)
        with self.assertRaises(TooMany):
            times_of(many, 0)

    def test_by_chance(self):
        chance = random.Random(27)
        counts = {"kept": 0, "late": 0, "many": 0}
        for k in range(400):
            program = chance_program(chance, chance.choice((4, 8, 20)), chance.choice((0, 20, 50)))
            base = chance_base(chance, program)
            with self.subTest(k):
                many = len(spans_of(program, base, 3000))
                if many > 3000:
                    counts["many"] += 1
                    with self.assertRaises(TooMany):
                        times_of(program, base)
                    continue
                if many > 300:
                    # Too slow for the model, so the checkers alone judge it.
                    told = times_of(program, base)
                    checker = right_times if told[0] == "kept" else right_late
                    self.assertIs(checker(program, base, told[1]), True)
                    continue
                cells = least_cells(program, base)
                if cells is None:
                    counts["late"] += 1
                    self.late(program, base)
                else:
                    counts["kept"] += 1
                    self.assertEqual(self.kept(program, base), cells)
        self.assertGreater(counts["kept"], 50)
        self.assertGreater(counts["late"], 50)
        self.assertGreater(counts["many"], 2)

    def test_each_run_of_a_kept_program_is_within_its_cells(self):
        chance = random.Random(28)
        for k in range(60):
            program = chance_program(chance, 12, 30) if k < 40 else chance_game(chance)
            base = chance_base(chance, program)
            try:
                told = times_of(program, base)
            except TooMany:
                continue
            if told[0] == "kept":
                with self.subTest(k):
                    self.walk(chance, program, base, told[1])

    def walk(self, chance, program, base, cells):
        """Do rows from the start on; each is begun as a cell of it says."""
        state = start(program)
        beat = 0
        for _ in range(200):
            row, a, x, zero = state[:4]
            found = [cell for cell in cells[row] if cell[0] <= x <= cell[1] and cell[3] <= beat <= cell[4]
                     and (cell[2] == 0 or zero == int(x == 0))]
            self.assertNotEqual(found, [])
            told = deed_done(program, base, state, chance_byte(chance))
            beat = 0 if program[row][1] == "wait" else beat + told[6]
            state = told[:6] + state[6:]


class JudgeTest(unittest.TestCase):
    def test_kept_with_no_tale_played(self):
        # None of these ever asks for an end, so no run of them is played.
        for program in (WAITS, DOWN, UP, ANY):
            with self.assertRaises(NoFrame):
                run(program, 0, (), 1)
            for tales in ((), ((),), ((GOOD,), (LONG, LOST))):
                self.assertEqual(judge(program, 0, tales, 3), times_of(program, 0))
        with mock.patch("beamrows.times.run", side_effect=AssertionError):
            self.assertEqual(judge(SAME, 5, ((), (GOOD,)), 12), times_of(SAME, 5))

    def test_the_first_tale_that_makes_a_run_late(self):
        way = times_of(BUTTONS, 0)[1]
        self.assertEqual(times_of(BUTTONS, 0)[0], "late")
        for tales, number in (
            ((), None), (((),), None), (((GOOD,),), None), (((LONG,),), 0), (((GOOD,), (LONG,)), 1),
            (((GOOD,), (LONG,), (LONG,)), 1), (((LOST,), (LONG,)), 1), (((LOST,), (GOOD,), (), (LONG,), (LOST,)), 3),
            (((LOST,),), None), (((LONG, LOST),), None), (((GOOD, LONG),), 0), (((GOOD, GOOD, LONG),), 0),
            (((GOOD, GOOD, GOOD, LONG),), None), (((LONG, GOOD, GOOD, LOST),), 0), (((LONG, GOOD, LOST),), None),
            (((GOOD,),) * 19 + ((LONG,),), 19),
        ):
            with self.subTest(tales=tales):
                kept = copy.deepcopy(tales)
                self.assertEqual(judge(BUTTONS, 0, tales, 3), ("late", way, number))
                self.assertEqual(tales, kept)

    def test_so_many_frames(self):
        for frames in range(1, 13):
            for number in range(13):
                tale = (GOOD,) * number + (LONG,)
                wanted = 0 if number < frames else None
                self.assertEqual(judge(BUTTONS, 0, (tale,), frames)[2], wanted)

    def test_the_way_is_a_late_one(self):
        for base in (0, 5, 16, 100):
            told = judge(BUTTONS, base, ((LONG,),), 1)
            self.assertEqual(told[:2], times_of(BUTTONS, base))
            self.assertIs(right_late(BUTTONS, base, told[1]), True)

    def test_a_late_flow_that_no_hands_lead_to(self):
        # What memory 0 holds is 0 in each run, but the flow does not know it.
        long = (("", "idle", None),) * 12
        program = (("a", "get", 0), ("", "ifz", "m")) + long + (("m", "door", 0), ("", "wait", None), ("", "go", "a"))
        told = judge(program, 0, ((), (LONG,), (LOST,)), 4)
        self.assertEqual((told[0], told[2]), ("late", None))
        self.assertIs(right_late(program, 0, told[1]), True)

    def test_by_chance(self):
        chance = random.Random(29)
        counts = {"kept": 0, "late": 0, "found": 0}
        for k in range(150):
            program = chance_game(chance)
            base = chance_base(chance, program)
            tales = tuple(tuple(chance_hands(chance) for _ in range(3)) for _ in range(3))
            try:
                told = times_of(program, base)
            except TooMany:
                with self.assertRaises(TooMany):
                    judge(program, base, tales, 3)
                continue
            late = []
            for number, tale in enumerate(tales):
                try:
                    rows = [frame[2] for frame in run(program, base, tale, 3)]
                except NoFrame:
                    continue
                if not is_in_time(program, rows):
                    late.append(number)
            counts[told[0]] += 1
            with self.subTest(k):
                if told[0] == "kept":
                    # What is told as kept is in time on every run.
                    self.assertEqual(late, [])
                    self.assertEqual(judge(program, base, tales, 3), told)
                else:
                    counts["found"] += len(late) > 0
                    self.assertEqual(judge(program, base, tales, 3), told + (late[0] if late else None,))
        self.assertGreater(min(counts.values()), 5)


if __name__ == "__main__":
    unittest.main()

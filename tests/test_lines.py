import copy
import random
import unittest

from beamrows.errors import NoFrame, NoRoom, NotWhole, TooMany
from beamrows.lines import lines_of
from beamrows.pages import page_signs
from beamrows.runs import is_in_time, run
from beamrows.times import judge, times_of
from beamrows.whole import right_frames
from tests.chance import chance_base, chance_frames, chance_game, chance_hands, chance_program, with_marks
from tests.papers import entries_of, least_cells, line_count, lines_paper, spans_of
from tests.samples import (DOWN, EYES, GROUND, LEAST, PROGRAMS, SAME, TIMELY, UP, WAITS, WHOLE, by_x,
                           lengths_of, straight, with_item)
from tests.test_times import counting

# A branch makes a line more.
MORE = (("a", "eye", 0), ("", "ifz", "m"), ("", "wait", None), ("m", "door", 0), ("", "wait", None), ("", "go", "a"))
# The end is asked for on one way alone.
ALONE = (("a", "eye", 0), ("", "ifz", "m"), ("", "door", 0), ("m", "wait", None), ("", "go", "a"))
# Frames of one line, and a way on which none ends any more.
LOST = (("a", "eye", 0), ("", "ifz", "lost"), ("", "door", 0), ("", "wait", None), ("", "go", "a"),
        ("lost", "wait", None), ("", "go", "lost"))


def skipping(lead, parts, late=False):
    """A loop without an end whose rows come up in each line: each part has a wait that may be gone over."""
    rows = [("rest", None)] * lead
    for many in parts:
        rows += [("ifc", len(rows) + 2), ("wait", None)] + [("rest", None)] * many + ([] if late else [("wait", None)])
    return with_marks(rows + [("wait", None)] * late + [("go", lead)])


def spread(lead, rests):
    """Frames of eight lines in which very many x come up, the end asked for once or twice."""
    rows = [("rest", None)] * lead + [("getx", 0)]
    for ups, many in ((4, 0), (0, rests), (6, 0), (6, 0)):
        end = len(rows) + 2 * ups
        rows += [("up", None), ("ifc", end)] * ups + [("rest", None)] * many + [("wait", None)]
    rows += [("ifc", len(rows) + 2), ("set", 5)]
    for many in (12, 12, 3):
        rows += [("rest", None)] * many + [("wait", None)]
    rows += [("eye", 2), ("ifz", len(rows) + 3), ("door", 0)] + [("rest", None)] * 6
    return with_marks(rows + [("door", 0), ("wait", None), ("go", lead)])


class LinesCase(unittest.TestCase):
    def told(self, program, base=0):
        """What lines_of tells, let by by the checker and held against a second writing."""
        kept = copy.deepcopy(program)
        told = lines_of(program, base)
        self.assertIs(told.__class__, tuple)
        lines, paper = told
        self.assertEqual((lines.__class__, paper.__class__), (int, tuple))
        self.assertIs(right_frames(program, base, times_of(program, base)[1], lines, paper), True)
        found = entries_of(program, base)
        self.assertEqual(paper, lines_paper(program, found))
        self.assertEqual(lines, line_count(program, found))
        self.assertEqual(lines_of(program, base), told)
        self.assertEqual(program, kept)
        return told

    def refused(self, error, program, base=0):
        with self.assertRaises(error) as caught:
            lines_of(program, base)
        self.assertIs(caught.exception.__class__, error)

    def plays(self, program, lines, base=0, many=6):
        """Each frame of some runs has just so many lines, and is in time."""
        chance = random.Random(lines)
        for _ in range(many):
            tale = tuple(chance_hands(chance) for _ in range(12))
            played = run(program, base, tale, 12)
            self.assertEqual({len(picture) for picture, log, rows, state in played}, {lines})
            self.assertIs(is_in_time(program, [rows for picture, log, rows, state in played]), True)


class WholeTest(LinesCase):
    def test_by_hand(self):
        self.assertEqual(self.told(GROUND), (1, (
            ((0, 0, 0, 0, 0), (0, 0, 1, 0, 0)), ((0, 0, 0, 0, 0),), ((0, 0, 0, 0, 0),), ((0, 0, 0, 1, 0),),
            ((0, 0, 0, 0, 0),))))
        self.assertEqual(self.told(by_x(3)), (3, (
            ((0, 0, 1, 0, 0),),
            ((1, 1, 1, 0, 1), (2, 2, 1, 0, 0)),
            ((1, 1, 1, 0, 2), (2, 2, 1, 0, 1)),
            ((0, 0, 1, 0, 2), (1, 1, 1, 0, 1)),
            ((0, 0, 1, 0, 2),),
            ((0, 0, 1, 1, 2),),
            ((0, 0, 1, 0, 0),),
        )))
        self.assertEqual(self.told(SAME)[0], 1)

    def test_whole_programs(self):
        for program, lines in WHOLE:
            for base in (0, 3, 28, 150):
                self.assertEqual(self.told(program, base)[0], lines)
                self.plays(program, lines, base)

    def test_frames_of_each_number_of_lines(self):
        for lines in range(1, 41):
            self.assertEqual(self.told(straight(lines))[0], lines)
            if lines > 1:
                self.assertEqual(self.told(by_x(lines))[0], lines)
        for lines in (20, 33, 40):
            self.plays(straight(lines), lines, many=1)
            self.plays(by_x(lines), lines, many=1)

    def test_the_end_asked_for_by_a_door_alone(self):
        # Other doors do not ask for it, whatever they hold.
        for door in range(1, 20):
            self.refused(NotWhole, with_item(GROUND, 2, ("", "door", door)))
            program = (("a", "set", 0), ("", "door", 0), ("", "door", door), ("", "wait", None), ("", "go", "a"))
            self.assertEqual(self.told(program)[0], 1)

    def test_asked_for_in_an_earlier_line_ends_the_frame_there(self):
        for lines in range(1, 7):
            program = (("a", "rest", None),) + (("", "wait", None),) * (lines - 1) + (("", "door", 0),)
            program += (("", "wait", None),) * (7 - lines) + (("", "go", "a"),)
            # What is left of the six lines belongs to the next frame.
            self.assertEqual([len(frame[0]) for frame in run(program, 0, (), 3)], [lines, 6, 6])
            if lines == 6:
                self.assertEqual(self.told(program)[0], 6)
            else:
                self.refused(NotWhole, program)

    def test_two_frames_in_one_round(self):
        # Each of two frames has its own rows, and two lines.
        half = (("", "wait", None), ("", "door", 0), ("", "wait", None))
        self.assertEqual(self.told((("a", "rest", None),) + half * 2 + (("", "go", "a"),))[0], 2)
        self.refused(NotWhole, (("a", "rest", None),) + half + half[1:] + (("", "go", "a"),))

    def test_asked_for_twice(self):
        self.assertEqual(self.told(EYES)[0], 2)
        found = {entry[3] for entry in self.told(EYES)[1][10]}
        self.assertEqual(found, {0, 1})

    def test_asked_for_with_the_last_beats_of_a_line(self):
        # The door row begins with beat 27, and the wait behind it with beat 30.
        program = (("a", "rest", None),) + (("", "rest", None),) * 11 + GROUND[2:]
        self.assertEqual(max(cell[4] for cell in times_of(program, 0)[1][13]), 30)
        self.assertEqual(self.told(program)[0], 1)
        self.plays(program, 1, many=1)

    def test_3000_entries_are_no_refusal(self):
        for lead, rests, many in ((0, 2, 2992), (0, 3, 3000)):
            program = spread(lead, rests)
            self.assertEqual(len(entries_of(program, 0)), many)
            lines, paper = self.told(program)
            self.assertEqual((lines, sum(len(entries) for entries in paper)), (8, many))
        self.plays(program, 8, many=1)


class NotWholeTest(LinesCase):
    def test_a_line_more(self):
        self.refused(NotWhole, MORE)
        self.refused(NotWhole, with_item(MORE, 1, ("", "ifc", "m")))
        # Where x says that the branch is not gone, it is whole.
        for x, lines in ((0, 1), (1, 2)):
            self.assertEqual(self.told((("a", "setx", x),) + MORE[1:])[0], lines)

    def test_no_frame_ends(self):
        for program in (WAITS, DOWN, UP):
            self.refused(NotWhole, program)
            with self.assertRaises(NoFrame):
                run(program, 0, (), 1)

    def test_the_end_asked_for_on_one_way_alone(self):
        self.refused(NotWhole, ALONE)

    def test_a_way_on_which_none_ends_any_more(self):
        # All waits with asked 1 have line 0, but there is one with asked 0 in line 39.
        found = entries_of(LOST, 0)
        self.assertEqual({entry[4] for row, entry in found if LOST[row][1] == "wait" and entry[3]}, {0})
        self.refused(NotWhole, LOST)

    def test_more_than_40_lines(self):
        self.refused(NotWhole, straight(41))
        self.refused(NotWhole, straight(42))
        self.refused(NotWhole, by_x(41))
        self.refused(NotWhole, by_x(256))
        self.assertEqual(self.told(straight(40))[0], 40)

    def test_frames_of_unlike_lines_one_behind_another(self):
        for one, other in ((1, 2), (3, 2), (4, 4)):
            program = straight(one)[:-1] + straight(other)[:-1][1:] + (("", "go", "a"),)
            if one == other:
                self.assertEqual(self.told(program)[0], one)
            else:
                self.refused(NotWhole, program)

    def test_the_first_frame_with_a_line_more(self):
        self.refused(NotWhole, (("", "wait", None),) + GROUND)

    def test_a_line_of_too_many_beats(self):
        for rests in (11, 12, 13, 20):
            program = (("a", "rest", None),) + (("", "rest", None),) * rests + GROUND[2:]
            if rests == 11:
                self.assertEqual(self.told(program)[0], 1)
            else:
                self.assertEqual(times_of(program, 0)[0], "late")
                self.refused(NotWhole, program)
        self.refused(NotWhole, LEAST)

    def test_a_base_at_which_it_is_late(self):
        program = (("a", "get", 0), ("", "ifz", "m"), ("", "door", 0), ("", "wait", None), ("", "go", "a"),
                   ("m", "door", 0)) + (("", "rest", None),) * 9 + (("", "wait", None), ("", "go", "a"))
        # The row behind the if-row is at base + 4, its mark at base + 9; the last wait begins with beat 30 or 31.
        for base, late in ((0, False), (22, False), (23, True), (27, True), (28, False), (60, False), (59, True)):
            if late:
                self.refused(NotWhole, program, base)
            else:
                self.assertEqual(self.told(program, base)[0], 1)


class TooManyTest(LinesCase):
    def test_handed_on_from_times_of(self):
        # By x alone, kept or late.
        for deed in ("wait", "idle"):
            for tail, many in ((9, 2999), (10, 3000), (11, 3001), (12, 3002)):
                program = counting(249, 12, tail, deed)
                self.assertEqual(len(spans_of(program, 0)), many)
                with self.subTest(deed=deed, many=many):
                    if many > 3000:
                        for asked in (times_of, lines_of, lambda *handed: judge(*handed, ((),), 2)):
                            with self.assertRaises(TooMany):
                                asked(program, 0)
                    else:
                        wanted = "kept" if deed == "wait" else "late"
                        self.assertEqual(times_of(program, 0)[0], wanted)
                        self.assertEqual(judge(program, 0, (), 1)[0], wanted)
                        self.refused(NotWhole, program)

    def test_more_than_3000_entries(self):
        for lead, many in ((0, 2999), (1, 3000), (2, 3001)):
            program = skipping(lead, [11] * 5 + [10])
            self.assertEqual(len(entries_of(program, 0)), many)
            self.assertLess(len(spans_of(program, 0)), 100)
            self.assertEqual(times_of(program, 0)[0], "kept")
            # No frame ends: at 3000 that is what is refused.
            self.refused(TooMany if many > 3000 else NotWhole, program)
        self.refused(TooMany, skipping(0, [12] * 7))

    def test_more_than_3000_entries_of_what_would_be_whole(self):
        program = spread(1, 3)
        found = entries_of(program, 0)
        self.assertEqual((len(found), line_count(program, found)), (3001, 8))
        self.assertLess(len(spans_of(program, 0)), 3000)
        self.refused(TooMany, program)
        self.refused(TooMany, spread(0, 4))

    def test_late_ahead_of_too_many_entries(self):
        program = skipping(0, [8] * 10, late=True)
        self.assertGreater(len(entries_of(program, 0, 3000)), 3000)
        self.assertEqual(times_of(program, 0)[0], "late")
        self.refused(NotWhole, program)

    def test_too_many_of_both(self):
        program = counting(255, 20, 0)
        self.refused(TooMany, program)

    def test_no_room_ahead_of_all(self):
        programs = PROGRAMS + TIMELY + tuple(program for program, lines in WHOLE)
        for program in programs + (MORE, LOST, LEAST, counting(255, 20, 0), skipping(0, [12] * 7)):
            last = 256 - sum(lengths_of(program))
            for base in {last + 1, 255} - {last}:
                self.refused(NoRoom, program, base)


class ChanceTest(LinesCase):
    def test_held_against_a_second_writing(self):
        chance = random.Random(40)
        counts = {"whole": 0, "not": 0, "late": 0, "many": 0}
        for k in range(400):
            if k % 4 == 0:
                program = chance_program(chance, 12, 30)
            else:
                program = chance_game(chance) if k % 4 == 1 else chance_frames(chance)
            base = chance_base(chance, program)
            with self.subTest(k):
                counts[self.held(program, base)] += 1
        self.assertGreater(counts["whole"], 60)
        self.assertGreater(counts["not"], 40)
        self.assertGreater(counts["late"], 40)

    def held(self, program, base):
        """Check one program; what it is."""
        if len(spans_of(program, base, 3000)) > 3000:
            self.refused(TooMany, program, base)
            return "many"
        if times_of(program, base)[0] == "late":
            self.refused(NotWhole, program, base)
            return "late"
        found = entries_of(program, base, 3000)
        if len(found) > 3000:
            self.refused(TooMany, program, base)
            return "many"
        if line_count(program, found) is None:
            self.refused(NotWhole, program, base)
            return "not"
        self.told(program, base)
        return "whole"

    def test_each_frame_has_its_lines(self):
        chance = random.Random(41)
        found = 0
        for k in range(120):
            program = chance_frames(chance)
            base = chance_base(chance, program)
            try:
                lines = lines_of(program, base)[0]
            except (NotWhole, TooMany):
                continue
            found += 1
            with self.subTest(k):
                self.plays(program, lines, base, many=1)
        self.assertGreater(found, 40)

    def test_bases_with_the_same_page_signs(self):
        chance = random.Random(42)
        for program in [program for program, lines in WHOLE] + [chance_frames(chance) for _ in range(15)]:
            by_signs = {}
            for base in range(0, 256 - sum(lengths_of(program)) + 1, 3):
                by_signs.setdefault(page_signs(program, base), []).append(base)
            for bases in list(by_signs.values())[:6]:
                tale = tuple(chance_hands(chance) for _ in range(3))
                self.same(program, bases[:3], tale)

    def same(self, program, bases, tale):
        """At each of these bases the answers and the runs are the same, and what one tells is let by at the others."""
        try:
            times = times_of(program, bases[0])
        except TooMany:
            return
        whole = self.whole(program, bases[0])
        for base in bases[1:]:
            self.assertEqual(times_of(program, base), times)
            self.assertEqual(self.whole(program, base), whole)
            if whole is not None:
                self.assertIs(right_frames(program, base, times[1], *whole), True)
                self.assertEqual(run(program, base, tale, 3), run(program, bases[0], tale, 3))

    def whole(self, program, base):
        try:
            return lines_of(program, base)
        except (NotWhole, TooMany):
            return None

    def test_the_cells_of_least_papers(self):
        # The second writing's cells let it by as well.
        for program, lines in WHOLE:
            self.assertIs(right_frames(program, 0, least_cells(program, 0), *lines_of(program, 0)), True)


if __name__ == "__main__":
    unittest.main()

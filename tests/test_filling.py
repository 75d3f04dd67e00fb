import copy
import itertools
import random
import unittest

from beamrows.errors import NoFill, NoFrame, NoProgram
from beamrows.filling import filled, right_filled
from beamrows.programs import check
from beamrows.runs import run
from tests.chance import chance_hands, chance_program
from tests.model import BEATS
from tests.samples import EVERY, GROUND, PROGRAMS, anything, rests, with_item, with_part

IDLE, REST = ("", "idle", None), ("", "rest", None)
# Row 2 has a stretch from row 0 on, rows 5 and 6 have one from behind the wait in row 3.
LINES = (("", "set", 1), ("", "putx", 0), ("", "door", 2), ("again", "wait", None), ("", "take", 3), ("", "door", 3),
         ("", "door", 0), ("", "wait", None), ("", "go", "again"), ("", "data", 0))
# The row's number, and the beats of its stretch.
LINES_DOORS = ((2, 5), (5, 4), (6, 7))


def fewest(beats):
    """(idles, rests) of so many beats with as few rows as there can be, by going through all of them; or None."""
    ways = [(idles + many, idles, many) for idles in range(beats // 3 + 1) for many in range(beats // 2 + 1)
            if 3 * idles + 2 * many == beats]
    return min(ways)[1:] if ways else None


def straight_beats(program, row):
    """The beats of a door row's stretch, by the words of point 35, or None."""
    if not 0 <= row < len(program) or program[row][1] != "door":
        return None
    waits = [number for number in range(row) if program[number][1] == "wait"]
    stretch = program[max(waits) + 1 if waits else 0:row]
    wrong = ("go", "ifz", "ifn", "ifc", "ifd", "at", "data")
    if program[row][0] or any(mark or deed in wrong for mark, deed, value in stretch):
        return None
    return sum(BEATS[deed] for mark, deed, value in stretch)


class FillCase(unittest.TestCase):
    def refused(self, error, program, row, beat):
        with self.assertRaises(error) as caught:
            filled(program, row, beat)
        self.assertIs(caught.exception.__class__, error)

    def check_all_beats(self, program, row, ahead):
        """What is told for each beat, where the stretch has so many beats."""
        kept = copy.deepcopy(program)
        for beat in range(32):
            wanted = fewest(beat - ahead - 3) if beat >= ahead + 3 else None
            with self.subTest(row=row, beat=beat):
                if wanted is None:
                    self.refused(NoFill, program, row, beat)
                else:
                    idles, many = wanted
                    told = filled(program, row, beat)
                    self.assertEqual(told, program[:row] + (IDLE,) * idles + (REST,) * many + program[row:])
                    self.assertIs(told.__class__, tuple)
                    self.assertIs(check(told), True)
                    self.assertIs(right_filled(program, row, beat, told), True)
                    self.assertEqual(filled(program, row, beat), told)
        self.assertEqual(program, kept)


class FilledTest(FillCase):
    def test_by_hand(self):
        door = (("", "door", 2), ("end", "go", "end"))
        for beat, ahead in ((3, ()), (5, (REST,)), (6, (IDLE,)), (7, (REST, REST)), (8, (IDLE, REST)),
                            (9, (IDLE, IDLE)), (10, (IDLE, REST, REST)), (11, (IDLE, IDLE, REST)), (12, (IDLE,) * 3),
                            (30, (IDLE,) * 9), (31, (IDLE,) * 8 + (REST,) * 2)):
            self.assertEqual(filled(door, 0, beat), ahead + door)
        for beat in (0, 1, 2, 4):
            self.refused(NoFill, door, 0, beat)

    def test_from_row_0_and_from_behind_a_wait(self):
        for row, ahead in LINES_DOORS:
            self.check_all_beats(LINES, row, ahead)

    def test_each_deed_in_the_stretch(self):
        for mark, deed, value in EVERY:
            if deed in ("go", "ifz", "ifn", "ifc", "ifd", "at", "data", "wait"):
                continue
            for head in ((), (("w", "wait", None),), (("", "set", 0), ("w", "wait", None))):
                program = head + (("", deed, value), ("", "door", 5), ("end", "go", "end"))
                self.check_all_beats(program, len(head) + 1, BEATS[deed])

    def test_a_wait_right_ahead(self):
        program = (("a", "rest", None), ("b", "wait", None), ("", "door", 0), ("", "go", "a"))
        self.check_all_beats(program, 2, 0)

    def test_the_nearest_wait_counts(self):
        # What stands above it may bear marks and lead elsewhere.
        program = (("a", "eye", 0), ("", "ifz", "a"), ("b", "wait", None), ("", "rest", None), ("c", "wait", None),
                   ("", "idle", None), ("", "door", 9), ("d", "rest", None), ("", "ifc", "c"), ("", "go", "b"))
        self.check_all_beats(program, 6, 3)

    def test_rests_that_are_there_already(self):
        program = (REST, IDLE, REST, ("", "door", 1), ("end", "go", "end"))
        self.check_all_beats(program, 3, 7)
        self.assertEqual(filled(program, 3, 15), (REST, IDLE, REST, IDLE, REST) + program[3:])

    def test_a_long_stretch(self):
        for many in range(20):
            program = (REST,) * many + (("", "door", 1), ("end", "go", "end"))
            self.check_all_beats(program, many, 2 * many)

    def test_beats_beyond_a_line(self):
        door = (("", "door", 2), ("end", "go", "end"))
        self.assertEqual(filled(door, 0, 33), (IDLE,) * 10 + door)
        for beat in (-1, -3, -10):
            self.refused(NoFill, door, 0, beat)

    def test_in_runs_the_write_falls_on_the_beat(self):
        for row, ahead in LINES_DOORS:
            for beat in range(ahead + 5, 26):
                told = filled(LINES, row, beat)
                here = row + len(told) - len(LINES)
                self.check_run(told, here, beat)

    def check_run(self, program, row, beat):
        """In a run each write of the row holds from that beat of its line on."""
        found = 0
        for picture, log, rows, state in run(program, 0, (), 3):
            held = {(line, at): door for line, at, door, value in log[2]}
            for done, line, begin in rows:
                if done == row:
                    found += 1
                    self.assertEqual(begin + 3, beat)
                    self.assertEqual(held[line, beat], program[row][2])
        self.assertGreater(found, 0)

    def test_each_beat_of_the_picture(self):
        # The ground is told from that beat on, and no place ahead of it is.
        program = (("a", "wait", None), ("", "set", 9), ("", "door", 2), ("", "door", 0), ("", "wait", None),
                   ("", "set", 0), ("", "door", 2), ("", "go", "a"))
        for beat in list(range(7, 27)):
            told = filled(program, 2, beat)
            first = 2 * max(0, beat - 8)
            self.assertEqual(run(told, 0, (), 1)[0][0][1], (0,) * first + (9,) * (48 - first))

    def test_by_chance(self):
        chance = random.Random(36)
        counts = {"filled": 0, "played": 0, "refused": 0}
        for k in range(300):
            program = chance_program(chance, 14, 25)
            row, beat = chance.randrange(len(program)), chance.randrange(32)
            doors = [number for number in range(len(program)) if program[number][1] == "door"]
            if doors and k % 3:
                row = chance.choice(doors)
            ahead = straight_beats(program, row)
            wanted = None if ahead is None or beat < ahead + 3 else fewest(beat - ahead - 3)
            with self.subTest(k):
                if wanted is None:
                    counts["refused"] += 1
                    self.refused(NoFill, program, row, beat)
                    continue
                counts["filled"] += 1
                told = filled(program, row, beat)
                more = (IDLE,) * wanted[0] + (REST,) * wanted[1]
                self.assertEqual(told, program[:row] + more + program[row:])
                counts["played"] += self.play(chance, told, row + len(more), beat)
        self.assertGreater(min(counts.values()), 5)

    def play(self, chance, program, row, beat):
        """Check each write of the row in a run, begun by the line's beat 0; how many there were."""
        try:
            played = run(program, 0, tuple(chance_hands(chance) for _ in range(2)), 2)
        except NoFrame:
            return 0
        begun = [begin for told in played for done, line, begin in told[2] if done == row]
        self.assertEqual([begin + 3 for begin in begun], [beat] * len(begun))
        return len(begun)


class RefusedTest(FillCase):
    def test_rows_that_are_no_door_rows(self):
        for program in (LINES, GROUND, EVERY):
            for row in range(len(program)):
                if program[row][1] != "door":
                    for beat in (3, 12, 31):
                        self.refused(NoFill, program, row, beat)
            for row in (-1, -3, -len(program), len(program), len(program) + 3, 400):
                self.refused(NoFill, program, row, 20)
        # Counted from the end, this one would be a door row.
        self.assertEqual(LINES[-8][1], "door")
        self.refused(NoFill, LINES, -8, 20)
        for row in range(10):
            self.assertIs(right_filled(LINES, row - 10, 20, LINES), False)

    def test_stretches_that_are_not_straight(self):
        tail = (("", "door", 2), ("w", "wait", None), ("t", "go", "t"), ("table", "data", 1))
        for row in (("", "go", "t"), ("", "ifz", "t"), ("", "ifn", "t"), ("", "ifc", "t"), ("", "ifd", "t"),
                    ("", "at", "table"), ("m", "rest", None), ("m", "set", 0), ("m", "door", 4)):
            for head in ((), (REST,), (("", "wait", None),), (REST, ("", "wait", None), REST)):
                for behind in ((), (IDLE,)):
                    program = head + (row,) + behind + tail
                    at = len(head) + 1 + len(behind)
                    for beat in range(3, 32):
                        self.refused(NoFill, program, at, beat)
                    self.assertIs(right_filled(program, at, 20, program), False)

    def test_a_mark_at_the_row_itself(self):
        for head in ((), (REST,), (("", "wait", None),), (("", "wait", None), REST)):
            program = head + (("m", "door", 2), ("t", "go", "t"))
            for beat in range(32):
                self.refused(NoFill, program, len(head), beat)
                self.assertIs(right_filled(program, len(head), beat, program), False)

    def test_a_mark_of_the_wait_or_behind_the_row(self):
        program = (("w", "wait", None), REST, ("", "door", 2), ("m", "rest", None), ("", "go", "w"))
        self.check_all_beats(program, 2, 2)

    def test_a_go_right_ahead(self):
        program = (("a", "wait", None), ("", "go", "a"), ("", "door", 2), ("", "go", "a"))
        self.refused(NoFill, program, 2, 10)

    def test_so_many_rows(self):
        tail = (("", "door", 2), ("end", "go", "end"))
        for tables in range(100, 119):
            program = tail + (("", "data", 0),) * tables
            for beat in range(3, 32):
                rows = fewest(beat - 3)
                if rows is None:
                    self.refused(NoFill, program, 0, beat)
                elif len(program) + sum(rows) > 120:
                    self.refused(NoProgram, program, 0, beat)
                else:
                    told = filled(program, 0, beat)
                    self.assertEqual(len(told), len(program) + sum(rows))
        # Of 120 rows, where none is added.
        program = tail + (("", "data", 0),) * 118
        self.assertEqual(filled(program, 0, 3), program)
        self.refused(NoProgram, program, 0, 5)
        self.refused(NoFill, program, 0, 4)
        self.refused(NoFill, program, 0, 2)
        self.refused(NoFill, program, 1, 5)


class RightFilledTest(FillCase):
    def says(self, wanted, thing, program=LINES, row=5, beat=20):
        self.assertIs(right_filled(program, row, beat, thing), wanted)

    def with_more(self, *more, program=LINES, row=5):
        return program[:row] + more + program[row:]

    def test_of_what_filled_tells(self):
        for row, ahead in LINES_DOORS:
            for beat in range(ahead + 5, 32):
                told = filled(LINES, row, beat)
                self.says(True, told, row=row, beat=beat)
                for other in range(-1, 35):
                    self.says(other == beat, told, row=row, beat=other)
                for other in (0, 1, 3, 4, 7, 8, 9, 10):
                    self.says(False, told, row=other, beat=beat)

    def test_the_added_rows_in_any_order(self):
        # 13 beats are left: three idles and two rests, or one idle and five rests.
        for more in set(itertools.permutations((IDLE,) * 3 + (REST,) * 2)):
            self.says(True, self.with_more(*more))
        for more in set(itertools.permutations((IDLE,) + (REST,) * 5)):
            self.says(True, self.with_more(*more))

    def test_as_many_beats(self):
        for idles in range(6):
            for many in range(9):
                more = (REST,) * many + (IDLE,) * idles
                self.says(3 * idles + 2 * many == 13, self.with_more(*more))
                self.says(True, self.with_more(*more), beat=7 + 3 * idles + 2 * many)

    def test_none_added(self):
        self.says(True, LINES, beat=7)
        for beat in list(range(7)) + list(range(8, 33)):
            self.says(False, LINES, beat=beat)

    def test_a_mark_on_an_added_row(self):
        more = (IDLE, IDLE, IDLE, REST, REST)
        for at in range(5):
            marked = with_item(more, at, ("new",) + more[at][1:])
            self.says(False, self.with_more(*marked))

    def test_another_deed(self):
        more = (IDLE, IDLE, IDLE, REST, REST)
        for deed, value in (("set", 0), ("half", None), ("twice", None), ("toa", None), ("up", None), ("setx", 0),
                            ("test", 0), ("tox", None), ("down", None)):
            self.says(False, self.with_more(*more[:4], ("", deed, value)))
        for deed, value in (("get", 0), ("put", 15), ("eye", 0), ("door", 3), ("getx", 0), ("flip", 0)):
            self.says(False, self.with_more(("", deed, value), *more[1:]))
        # A wait begins another line.
        self.says(False, self.with_more(*more[:4], ("", "wait", None)))

    def test_added_elsewhere(self):
        more = (IDLE, IDLE, IDLE, REST, REST)
        for at in range(len(LINES) - 1):
            self.says(at == 5, LINES[:at] + more + LINES[at:])
        for at in (4, 6):
            self.says(False, self.with_more(*more[:4])[:at] + (REST,) + self.with_more(*more[:4])[at:], beat=18)
        # Where rests and idles are there already, more of them are right ahead wherever they are put.
        program = (REST, REST, ("", "door", 1), ("end", "go", "end"))
        for at in range(3):
            self.says(True, program[:at] + (REST,) + program[at:], program, 2, 9)
            self.says(at == 2, program[:at] + (IDLE,) + program[at:], program, 2, 10)

    def test_a_row_behind(self):
        told = filled(LINES, 5, 20)
        code = len(told) - 1
        self.says(False, told + (("", "data", 0),))
        self.says(False, told[:code - 1] + (REST,) + told[code - 1:])
        self.says(False, told[:11] + (REST,) + told[11:])

    def test_one_row_fewer(self):
        told = filled(LINES, 5, 20)
        for at in range(len(told)):
            bent = told[:at] + told[at + 1:]
            self.says(False, bent)
        self.says(False, LINES[1:], beat=7)
        self.says(False, LINES[:-1], beat=7)
        self.says(False, LINES[:4] + LINES[5:], beat=7)
        # Also where the rows left over are the same as those that should stand there.
        program = (("", "door", 2),) * 4 + (("end", "go", "end"),)
        for row in range(4):
            for fewer in range(5):
                self.says(fewer == 0, program[fewer:], program, row, 3 * row + 3)

    def test_a_row_changed(self):
        told = filled(LINES, 5, 20)
        self.says(True, told)
        for at in range(len(told)):
            mark, deed, value = told[at]
            for row in ((mark, deed, 2), (mark, deed, 0), ("other", deed, value), ("", deed, value),
                        (mark, "rest", None), (mark, "set", 1), (mark, "data", 0), (mark, "set", 0)):
                self.says(row == told[at], with_item(told, at, row))
        # Also where it is as long, and a program.
        self.says(False, with_part(told, 0, 2, 2))
        self.says(False, with_part(told, 1, 2, 1))
        self.says(False, with_part(told, len(told) - 1, 2, 1))

    def test_names_count(self):
        bent = tuple((mark.replace("again", "other"), deed, "other" if value == "again" else value)
                     for mark, deed, value in filled(LINES, 5, 20))
        self.assertIs(check(bent), True)
        self.says(False, bent)

    def test_lists_for_tuples(self):
        told = filled(LINES, 5, 20)
        self.says(False, list(told))
        self.says(False, dict(enumerate(told)))
        for at in range(len(told)):
            self.says(False, with_item(told, at, list(told[at])))

    def test_true_and_false_are_no_numbers(self):
        told = filled(LINES, 5, 20)
        self.says(False, with_part(told, 0, 2, True))
        self.says(False, with_part(told, 1, 2, False))
        self.says(False, with_part(told, len(told) - 1, 2, False))

    def test_what_is_no_program(self):
        tail = (("", "door", 2), ("end", "go", "end"))
        program = tail + (("", "data", 0),) * 117
        self.says(True, (REST,) + program, program, 0, 5)
        self.says(False, (REST, REST) + program, program, 0, 7)
        self.says(False, (REST,) * 10 + program, program, 0, 23)

    def test_rows_without_a_straight_stretch(self):
        for program in PROGRAMS + (LINES, GROUND):
            for row in range(-2, len(program) + 2):
                if straight_beats(program, row) is None:
                    for beat in (0, 2, 3, 7, 20):
                        self.says(False, program, program, row, beat)
                        if 0 <= row < len(program):
                            self.says(False, program[:row] + (REST,) + program[row:], program, row, beat)

    def test_anything(self):
        told = filled(LINES, 5, 20)
        for k, thing in enumerate(anything()):
            kept = copy.deepcopy(thing)
            with self.subTest(k):
                for row, beat in ((5, 20), (5, 7), (2, 8), (0, 3), (-5, 3), (99, 3)):
                    self.says(False, thing, row=row, beat=beat)
                for at in range(len(told)):
                    self.says(False, with_item(told, at, thing))
                    for part in range(3):
                        bent = with_part(told, at, part, thing)
                        self.says(bent == told and thing.__class__ is told[at][part].__class__, bent)
                self.assertEqual(thing, kept)

    def test_of_all_kinds_of_programs(self):
        for program in PROGRAMS:
            self.says(False, program)
        self.says(False, rests(len(LINES)))


if __name__ == "__main__":
    unittest.main()

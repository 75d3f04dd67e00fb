import copy
import random
import unittest

from beamrows.cells import right_times
from beamrows.errors import NoPaper, NoRoom, TooMany
from beamrows.runs import run
from beamrows.times import times_of
from beamrows.windows import window
from tests.chance import chance_base, chance_frames, chance_game, chance_hands
from tests.papers import least_cells
from tests.samples import (EITHER, EVERY, EYES, GROUND, LEAST, LOOPS, PROGRAMS, SAME, WHOLE, anything, by_x, lengths_of,
                           straight, with_item)

# Row 8 is a door row that is never come to, row 2 one that is come to on two ways.
TWO = (("a", "eye", 0), ("", "ifz", "m"), ("n", "door", 2), ("", "door", 0), ("", "wait", None), ("", "go", "a"),
       ("m", "idle", None), ("", "go", "n"), ("never", "door", 7), ("", "go", "never"), ("", "data", 3))


class WindowCase(unittest.TestCase):
    def told(self, program, row, cells=None, base=0):
        cells = least_cells(program, base) if cells is None else cells
        self.assertIs(right_times(program, base, cells), True)
        kept = copy.deepcopy((program, cells))
        told = window(program, base, cells, row)
        self.assertEqual([told.__class__] + [part.__class__ for part in told], [tuple, int, int])
        self.assertEqual(window(program, base, cells, row), told)
        self.assertEqual((program, cells), kept)
        return told

    def none(self, program, row, cells, base=0):
        with self.assertRaises(NoPaper) as caught:
            window(program, base, cells, row)
        self.assertIs(caught.exception.__class__, NoPaper)


class ToldTest(WindowCase):
    def test_by_hand(self):
        # From the start with beat 0, behind the go with beat 3.
        self.assertEqual(self.told(GROUND, 1), (5, 8))
        self.assertEqual(self.told(GROUND, 2), (8, 11))
        self.assertEqual(self.told(straight(1), 1), (5, 8))
        self.assertEqual(self.told(straight(2), 2), (3, 3))
        self.assertEqual(self.told(by_x(4), 4), (7, 7))

    def test_two_ways(self):
        # With 3 beats of eye and 2 of the if-row; or 3, and 3 of idle and of go.
        self.assertEqual(self.told(TWO, 2), (8, 18))
        self.assertEqual(self.told(TWO, 3), (11, 21))
        # The row behind the if-row is at base + 4, its mark at base + 11.
        self.assertEqual(self.told(TWO, 2, base=25), (8, 19))

    def test_more_than_one_cell(self):
        program = (("a", "setx", 1), ("", "ifc", "m"), ("", "setx", 9), ("m", "door", 2), ("", "door", 0),
                   ("", "wait", None), ("", "go", "a"))
        cells = least_cells(program, 0)
        self.assertEqual(cells[3], ((1, 1, 1, 5, 8), (9, 9, 1, 6, 9)))
        self.assertEqual(self.told(program, 3), (8, 12))
        # The least early and the greatest late are those of unlike cells, whichever comes first.
        swapped = (("a", "setx", 9), ("", "ifc", "m"), ("", "setx", 1)) + program[3:]
        self.assertEqual(least_cells(swapped, 0)[3], ((1, 1, 1, 6, 9), (9, 9, 1, 5, 8)))
        self.assertEqual(self.told(swapped, 3), (8, 12))

    def test_cells_one_within_another(self):
        cells = (((0, 0, 1, 0, 3),), ((0, 0, 1, 0, 9), (0, 0, 1, 2, 5), (0, 0, 1, 7, 20)), ((0, 0, 1, 0, 30),),
                 ((0, 0, 1, 0, 0),))
        self.assertEqual(self.told(straight(1), 1, cells), (3, 23))
        cells = with_item(cells, 1, ((0, 0, 1, 2, 12), (0, 0, 1, 5, 5), (0, 255, 0, 1, 1)))
        cells = with_item(with_item(cells, 2, ((0, 255, 0, 0, 30),)), 3, ((0, 255, 0, 0, 0),))
        cells = with_item(cells, 0, ((0, 255, 0, 0, 3),))
        cells = with_item(cells, 1, cells[1] + ((0, 255, 0, 2, 5),))
        self.assertEqual(self.told(straight(1), 1, cells), (4, 15))

    def test_least_cells(self):
        for program in [program for program, lines in WHOLE] + [SAME, TWO]:
            for base in (0, 5, 27, 150):
                cells = least_cells(program, base)
                self.assertEqual(times_of(program, base), ("kept", cells))
                for row in range(len(program)):
                    if program[row][1] == "door" and cells[row]:
                        wanted = (min(cell[3] for cell in cells[row]) + 3, max(cell[4] for cell in cells[row]) + 3)
                        self.assertEqual(self.told(program, row, cells, base), wanted)
                    else:
                        self.none(program, row, cells, base)

    def test_wider_cells(self):
        chance = random.Random(34)
        found = 0
        for program in (GROUND, EITHER, EYES, straight(3), TWO, SAME) * 12:
            code = [row for row in range(len(program)) if program[row][1] != "data"]
            early = chance.randrange(10)
            seed = ((chance.choice(code), 0, chance.randrange(256), 0), (early, early + chance.randrange(6)))
            cells = least_cells(program, 0, seeds=(seed,))
            if cells is None:
                continue
            for row in code:
                if program[row][1] == "door" and cells[row]:
                    found += 1
                    wanted = (min(cell[3] for cell in cells[row]) + 3, max(cell[4] for cell in cells[row]) + 3)
                    self.assertEqual(self.told(program, row, cells), wanted)
        self.assertGreater(found, 50)

    def test_the_last_beat(self):
        for rests in range(12):
            program = (("a", "rest", None),) + (("", "rest", None),) * rests + straight(1)[1:]
            self.assertEqual(self.told(program, rests + 1), (2 * rests + 5, 2 * rests + 8))
        # A row that no run comes to may begin as late as it wants, so far as a wait comes in time.
        cells = (((0, 0, 1, 0, 3),), ((0, 0, 1, 0, 27),), ((0, 0, 1, 0, 30),), ((0, 0, 1, 0, 0),))
        self.assertEqual(self.told(straight(1), 1, cells), (3, 30))

    def test_in_runs_each_write_falls_between(self):
        chance = random.Random(35)
        counts = {"rows": 0, "writes": 0}
        for k in range(80):
            program = chance_frames(chance) if k % 2 else chance_game(chance)
            base = chance_base(chance, program)
            try:
                sort, cells = times_of(program, base)
            except TooMany:
                continue
            if sort == "kept":
                tale = tuple(chance_hands(chance) for _ in range(4))
                with self.subTest(k):
                    self.check_run(program, base, cells, run(program, base, tale, 4), counts)
        self.assertGreater(counts["rows"], 300)
        self.assertGreater(counts["writes"], 300)

    def check_run(self, program, base, cells, played, counts):
        for picture, log, rows, state in played:
            held = {(line, beat): door for line, beat, door, value in log[2]}
            for row, line, beat in rows:
                if program[row][1] == "door":
                    first, last = window(program, base, cells, row)
                    counts["rows"] += 1
                    self.assertTrue(first <= beat + 3 <= last)
                    counts["writes"] += held.get((line, beat + 3)) == program[row][2]


class RefusalTest(WindowCase):
    def test_rows_that_are_no_door_rows(self):
        for program in (GROUND, EYES, LOOPS, TWO):
            cells = least_cells(program, 0)
            for row in range(len(program)):
                if program[row][1] != "door":
                    self.none(program, row, cells)
            for row in (-1, -2, -3, -len(program), -len(program) + 1, len(program), len(program) + 1, 500):
                self.none(program, row, cells)

    def test_door_rows_without_a_cell(self):
        cells = least_cells(TWO, 0)
        self.assertEqual((TWO[8][1], cells[8]), ("door", ()))
        self.none(TWO, 8, cells)
        # With a cell that keeps in time it has a window, too: here there is none, for it goes round for ever.
        self.none(TWO, 8, with_item(cells, 8, ((0, 0, 1, 0, 0),)))
        program = with_item(TWO, 9, ("", "go", "n"))
        cells = least_cells(program, 0, seeds=(((8, 0, 0, 1), (4, 5)),))
        self.assertEqual(self.told(program, 8, cells), (7, 8))
        self.none(program, 8, least_cells(program, 0))

    def test_cells_that_do_not_keep_in_time(self):
        for program in (GROUND, EYES, TWO):
            cells = least_cells(program, 0)
            doors = [row for row in range(len(program)) if program[row][1] == "door" and cells[row]]
            for row in range(len(program)):
                for bent in (with_item(cells, row, ()), with_item(cells, row, list(cells[row])),
                             with_item(cells, row, cells[row] * 2)):
                    if not right_times(program, 0, bent):
                        for door in doors:
                            self.none(program, door, bent)
            for bent in (((),) * len(program), list(cells), cells[:-1], cells + ((),), None):
                for door in doors:
                    self.none(program, door, bent)

    def test_a_late_program(self):
        program = (("a", "rest", None),) + (("", "rest", None),) * 12 + straight(1)[1:]
        for cells in (((),) * len(program), (((0, 0, 1, 0, 30),),) * len(program)):
            self.none(program, 13, cells)

    def test_anything(self):
        for k, thing in enumerate(anything()):
            kept = copy.deepcopy(thing)
            with self.subTest(k):
                for program, row in ((GROUND, 1), (EVERY, 27), (LEAST, 0), (EYES, 9), (GROUND, 0), (GROUND, 77)):
                    self.none(program, row, thing)
                cells = least_cells(GROUND, 0)
                for row in range(5):
                    self.none(GROUND, 1, with_item(cells, row, thing))
                    self.none(GROUND, 1, with_item(cells, row, (thing,)))
                self.assertEqual(thing, kept)

    def test_no_room_ahead_of_all(self):
        for program in PROGRAMS + (GROUND, EYES, TWO):
            last = 256 - sum(lengths_of(program))
            for base in {last + 1, 255} - {last}:
                for cells in (None, ((),) * len(program), [], 7):
                    for row in (0, 1, 27, 999):
                        with self.assertRaises(NoRoom):
                            window(program, base, cells, row)
            self.none(program, 0, None, last)
        with self.assertRaises(NoRoom):
            window(GROUND, 250, least_cells(GROUND, 0), 1)


if __name__ == "__main__":
    unittest.main()

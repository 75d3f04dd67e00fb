import copy
import unittest

from beamrows.states import is_state, start
from tests.samples import EVERY, FIELDS, LEAST, LINES, PROGRAMS, anything, changed, with_item

GREATEST = {"row": 5, "a": 255, "x": 255, "zero": 1, "carry": 1, "meetings": 63, "timer": 4080, "beat": 4, "asked": 1}

MIDDLE = (2, 200, 9, 0, 1, tuple(range(16)), tuple(range(235, 255)), 40, 1000, 3, 0, 1)
WAITING = with_item(with_item(with_item(with_item(MIDDLE, 0, 3), 9, 1), 10, 1), 11, 0)


class StartTest(unittest.TestCase):
    def test_start(self):
        for program in PROGRAMS:
            self.assertEqual(start(program), (0, 0, 0, 1, 0, (0,) * 16, (0,) * 20, 0, 0, 0, 0, 0))
            self.assertIs(is_state(program, start(program)), True)


class IsStateTest(unittest.TestCase):
    def yes(self, program, thing):
        self.assertIs(is_state(program, thing), True)

    def no(self, program, thing):
        self.assertIs(is_state(program, thing), False)

    def test_states(self):
        self.yes(LINES, MIDDLE)
        self.yes(LINES, WAITING)
        self.yes(EVERY, changed(MIDDLE, row=32))
        self.yes(LEAST, start(LEAST))

    def test_each_number_at_its_bounds(self):
        for name, greatest in GREATEST.items():
            for value in (0, 1, greatest):
                with self.subTest(name=name, value=value):
                    self.yes(LINES, changed(MIDDLE, **{name: value}))
            for value in (-1, greatest + 1, -1000, 10 ** 5000):
                with self.subTest(name=name, huge=value > 10 ** 9):
                    self.no(LINES, changed(MIDDLE, **{name: value}))

    def test_each_number_of_another_kind(self):
        for name in FIELDS:
            for thing in (True, False, None, "", "0", "1", (), (0,), [], [0], {}, {0: 0}):
                with self.subTest(name=name, thing=thing):
                    self.no(LINES, changed(MIDDLE, **{name: thing}))
                    self.no(LINES, changed(WAITING, **{name: thing}))

    def test_waiting_at_its_bounds(self):
        for value in (-1, 2):
            self.no(LINES, changed(WAITING, waiting=value))
            self.no(LINES, changed(MIDDLE, waiting=value))

    def test_memory_and_doors(self):
        for name, many in (("memory", 16), ("doors", 20)):
            for value in (0, 255):
                self.yes(LINES, changed(MIDDLE, **{name: (value,) * many}))
            for thing in ((0,) * (many - 1), (0,) * (many + 1), [0] * many, 0, "0" * many, {k: 0 for k in range(many)},
                          ((0,) * many,), ()):
                self.no(LINES, changed(MIDDLE, **{name: thing}))
            for at in (0, 7, many - 1):
                for wrong in (-1, 256, True, False, None, "0", (0,), [], {}, 10 ** 5000):
                    self.no(LINES, changed(MIDDLE, **{name: with_item((0,) * many, at, wrong)}))
        self.no(LINES, changed(MIDDLE, memory=(0,) * 20))
        self.no(LINES, changed(MIDDLE, doors=(0,) * 16))

    def test_the_row(self):
        for row in range(len(EVERY)):
            self.assertIs(is_state(EVERY, changed(MIDDLE, row=row)), row < 33)
        for row in (-1, 36, 37, 120, -36):
            self.no(EVERY, changed(MIDDLE, row=row))
        self.no(LEAST, changed(start(LEAST), row=1))

    def test_waiting(self):
        self.yes(LINES, changed(start(LINES), row=3, beat=1, waiting=1))
        for row in (0, 1, 2, 4, 5):
            self.no(LINES, changed(WAITING, row=row))
            self.yes(LINES, changed(WAITING, row=row, waiting=0))
        for beat in (0, 2, 3, 4):
            self.no(LINES, changed(WAITING, beat=beat))
            self.yes(LINES, changed(WAITING, beat=beat, waiting=0))
        self.no(LINES, changed(WAITING, asked=1))
        self.yes(LINES, changed(WAITING, asked=1, waiting=0))

    def test_waiting_at_row_0_has_no_row_ahead(self):
        program = (("a", "wait", None), ("", "go", "a"))
        self.no(program, changed(start(program), beat=1, waiting=1))
        self.yes(program, changed(start(program), row=1, beat=1, waiting=1))

    def test_a_field_more_or_fewer(self):
        for state in (MIDDLE, WAITING):
            self.no(LINES, state + (0,))
            self.no(LINES, state + (None,))
            self.no(LINES, (0,) + state)
            for at in range(12):
                self.no(LINES, state[:at] + state[at + 1:])
        self.no(LINES, list(MIDDLE))
        self.no(LINES, (MIDDLE,))
        self.no(LINES, dict(zip(FIELDS, MIDDLE)))

    def test_anything(self):
        for k, thing in enumerate(anything()):
            with self.subTest(k):
                self.no(EVERY, thing)
                self.no(LEAST, thing)

    def test_anything_in_the_place_of_a_field(self):
        for k, thing in enumerate(anything()):
            for name in FIELDS:
                within = thing.__class__ is int and 0 <= thing <= GREATEST.get(name, -1)
                with self.subTest(k=k, name=name):
                    self.assertIs(is_state(LINES, changed(MIDDLE, **{name: thing})), within)

    def test_what_is_handed_in_stays_as_it_was(self):
        for thing in anything():
            kept = copy.deepcopy(thing)
            self.no(LINES, thing)
            self.assertEqual(thing, kept)


if __name__ == "__main__":
    unittest.main()

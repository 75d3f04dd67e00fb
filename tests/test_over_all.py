"""What the document promises over the whole program, from one part of it to another."""

import importlib
import inspect
import random
import unittest

from beamrows.beam import LINE_BEATS
from beamrows.cells import right_late, right_times
from beamrows.desk import Desk
from beamrows.errors import NoFill, NoFrame, NoNumbers, NoPaper, NoProgram, NoRoom, NoSpan, NotWhole, TooMany
from beamrows.filling import filled, right_filled
from beamrows.frames import frame
from beamrows.lines import lines_of
from beamrows.numbers import bare, numbers_of, read_numbers
from beamrows.pages import address, page_signs
from beamrows.pictures import plain, quick, right_log
from beamrows.programs import check
from beamrows.runs import first_unlike, is_in_time, run
from beamrows.seeking import span
from beamrows.spans import right_high, right_low
from beamrows.states import start
from beamrows.steps import deed_done
from beamrows.texts import program_text, read_program, read_tale, tale_text
from beamrows.times import judge, times_of
from beamrows.whole import right_frames
from beamrows.windows import window
from tests.chance import chance_base, chance_byte, chance_frames, chance_game, chance_hands, chance_program
from tests.model import TooLong, frame_by_words
from tests.samples import EVERY, GROUND, PROGRAMS, TIMELY, WHOLE, code_of, lengths_of
from tests.test_times import counting

# Each module with its names and how many arguments they have, by the section "The interface".
INTERFACE = {
    "deeds": {"kind": 1, "byte_count": 1, "beat_count": 1, "number_of": 1},
    "programs": {"check": 1, "next_rows": 2, "row_of": 2},
    "numbers": {"numbers_of": 2, "read_numbers": 3, "bare": 1},
    "pages": {"address": 3, "page_signs": 2},
    "places": {"shows": 2, "colour": 2, "meetings": 2},
    "pictures": {"right_log": 1, "plain": 1, "quick": 1, "meetings_of": 1},
    "states": {"is_state": 2, "start": 1},
    "steps": {"deed_done": 4},
    "frames": {"frame": 4},
    "runs": {"run": 4, "first_unlike": 3, "is_in_time": 2},
    "cells": {"right_times": 3, "right_late": 3},
    "times": {"times_of": 2, "judge": 4},
    "spans": {"right_low": 5, "right_high": 5},
    "seeking": {"span": 4},
    "whole": {"right_frames": 5},
    "lines": {"lines_of": 2},
    "windows": {"window": 4},
    "filling": {"filled": 3, "right_filled": 4},
    "texts": {"program_text": 1, "tale_text": 1, "read_program": 1, "read_tale": 1},
    "desk": {"Desk": 2},
}
DESK = {"frame": 1, "state": 0, "frames": 0, "log": 1, "back": 0, "go": 1, "in_time": 0}


def renamed(program):
    """The program with other names for its marks, some of them named like deeds."""
    words = ["set", "go", "wait", "data", "ifz"] + [a + b + "q" for a in "zyxwvuts" for b in "abcdefghijklmno"]
    names = {mark: words[k] for k, mark in enumerate(mark for mark, deed, value in program if mark)}
    return tuple((names.get(mark, ""), deed, names.get(value, value) if isinstance(value, str) else value)
                 for mark, deed, value in program)


def like_bases(program, base):
    """The bases with the same page signs."""
    last = 256 - sum(lengths_of(program))
    signs = page_signs(program, base)
    return [other for other in range(last + 1) if page_signs(program, other) == signs]


class InterfaceTest(unittest.TestCase):
    def test_names_and_arguments(self):
        for module, names in INTERFACE.items():
            held = importlib.import_module("beamrows." + module)
            for name, many in names.items():
                with self.subTest(module=module, name=name):
                    self.assertEqual(len(inspect.signature(getattr(held, name)).parameters), many)

    def test_the_methods_of_a_desk_are_its_own(self):
        for name, many in DESK.items():
            self.assertEqual(len(inspect.signature(vars(Desk)[name]).parameters), many + 1)


class NoRoomTest(unittest.TestCase):
    def asked(self, program, base):
        """Each function that is handed a base, but for read_numbers, asked so that it would else refuse or tell."""
        state, tale = start(program), ((1, 2, 3),)
        fits = (GROUND, 0, ())
        return {
            "numbers_of": lambda: numbers_of(program, base),
            "address": lambda: address(program, base, 0),
            "page_signs": lambda: page_signs(program, base),
            "deed_done": lambda: deed_done(program, base, state, 0),
            "frame": lambda: frame(program, base, state, (0, 0, 0)),
            "run": lambda: run(program, base, tale, 12),
            "first_unlike": lambda: first_unlike((program, base, tale), fits, 2),
            "first_unlike, other": lambda: first_unlike(fits, (program, base, tale), 2),
            "right_times": lambda: right_times(program, base, None),
            "right_late": lambda: right_late(program, base, ()),
            "times_of": lambda: times_of(program, base),
            "judge": lambda: judge(program, base, (tale,), 2),
            "right_low": lambda: right_low(program, base, 0, 0, None),
            "right_high": lambda: right_high(program, base, 0, 0, None),
            "span": lambda: span(program, base, 0, 0),
            "right_frames": lambda: right_frames(program, base, None, 1, None),
            "lines_of": lambda: lines_of(program, base),
            "window": lambda: window(program, base, None, 0),
            "Desk": lambda: Desk(program, base),
        }

    def test_ahead_of_all_else(self):
        for program in PROGRAMS + TIMELY + (GROUND, counting(255, 20, 0)):
            last = 256 - sum(lengths_of(program))
            for base in {last + 1, last + 2, 255} - {last}:
                if base <= 255:
                    for name, deed in self.asked(program, base).items():
                        with self.subTest(name), self.assertRaises(NoRoom):
                            deed()
            for name, deed in self.asked(program, last).items():
                with self.subTest(name):
                    try:
                        deed()
                    except NoRoom:
                        self.fail("there is room")
                    except (NoFrame, NoSpan, NotWhole, NoPaper, TooMany):
                        pass

    def test_read_numbers_refuses_with_it_last(self):
        numbers, code = numbers_of(GROUND, 0), code_of(GROUND)
        for base in range(248, 256):
            with self.assertRaises(NoNumbers):
                read_numbers(numbers[:-1], base, code)
        moved = numbers_of(GROUND, 247)
        self.assertEqual(read_numbers(moved, 247, code), bare(GROUND))
        with self.assertRaises(NoRoom):
            read_numbers(tuple(moved[:-1]) + (248,), 248, code)


class WholeCase(unittest.TestCase):
    def programs(self, seed, many):
        """Programs of all sorts, each with a base and a tale."""
        chance = random.Random(seed)
        for k in range(many):
            maker = (chance_frames, chance_game, chance_program)[k % 3]
            program = maker(chance)
            yield program, chance_base(chance, program), tuple(chance_hands(chance) for _ in range(3))
        for program, lines in WHOLE:
            yield program, chance_base(chance, program), tuple(chance_hands(chance) for _ in range(3))

    def played(self, program, base, tale, frames=4):
        """What a run tells, or None where it is refused."""
        try:
            return run(program, base, tale, frames)
        except NoFrame:
            return None


class RunsTest(WholeCase):
    def test_from_text_to_numbers_and_back(self):
        found = 0
        for program, base, tale in self.programs(50, 60):
            read = read_program(program_text(program))
            self.assertEqual(read, program)
            again = read_numbers(numbers_of(read, base), base, code_of(read))
            self.assertEqual(again, bare(program))
            self.assertEqual(numbers_of(again, base), numbers_of(program, base))
            self.assertEqual(read_program(program_text(again)), again)
            told = read_tale(tale_text(tale))
            self.assertEqual(told, tale)
            played = self.played(program, base, tale)
            found += played is not None
            self.assertEqual(self.played(again, base, told), played)
        self.assertGreater(found, 30)

    def test_other_names(self):
        for program, base, tale in self.programs(51, 45):
            other = renamed(program)
            self.assertIs(check(other), True)
            self.assertEqual(bare(other), bare(program))
            self.assertEqual(numbers_of(other, base), numbers_of(program, base))
            self.assertEqual(page_signs(other, base), page_signs(program, base))
            self.assertEqual(self.played(other, base, tale), self.played(program, base, tale))
            self.assertEqual(self.answers(other, base), self.answers(program, base))

    def answers(self, program, base):
        """What is told of a program's times and lines."""
        told = []
        for asked in (times_of, lines_of):
            try:
                told.append(asked(program, base))
            except (TooMany, NotWhole) as refusal:
                told.append(refusal.__class__)
        return told

    def test_other_bases(self):
        found = 0
        for program, base, tale in self.programs(52, 45):
            played, told = self.played(program, base, tale), self.answers(program, base)
            for other in like_bases(program, base)[:4]:
                found += other != base
                self.assertEqual(self.played(program, other, tale), played)
                self.assertEqual(self.answers(program, other), told)
                if played is not None:
                    self.assertIsNone(first_unlike((program, base, tale), (program, other, tale), 4))
        self.assertGreater(found, 60)

    def test_from_the_middle(self):
        for program, base, tale in self.programs(53, 45):
            played = self.played(program, base, tale)
            if played is None:
                continue
            hands = tale + ((0, 0, 0),)
            for middle in range(3):
                desk = Desk(program, base)
                desk.go(played[middle][3])
                for number in range(middle + 1, 4):
                    self.assertEqual(desk.frame(hands[number]), played[number][0])
                    self.assertEqual(desk.state(), played[number][3])
                    self.assertEqual(desk.log(number - middle - 1), played[number][1])

    def test_frames_by_the_words_of_the_document(self):
        for program, base, tale in self.programs(54, 45):
            desk, state = Desk(program, base), start(program)
            for hands in tale:
                try:
                    wanted = frame_by_words(program, base, state, hands)
                except TooLong:
                    with self.assertRaises(NoFrame):
                        desk.frame(hands)
                    break
                self.assertEqual(desk.frame(hands), wanted[0])
                self.assertEqual((desk.log(desk.frames() - 1), desk.state()), (wanted[1], wanted[3]))
                state = wanted[3]


class PictureTest(WholeCase):
    def test_every_way_to_draw_it(self):
        for program, base, tale in self.programs(55, 60):
            for picture, log, rows, state in self.played(program, base, tale) or []:
                self.assertIs(right_log(log), True)
                self.assertEqual(plain(log), picture)
                self.assertEqual(quick(log), picture)

    def test_every_row_takes_its_beats(self):
        for program, base, tale in self.programs(56, 60):
            state = start(program)
            for hands in tale:
                try:
                    picture, log, rows, behind = frame(program, base, state, hands)
                except NoFrame:
                    break
                for (row, line, beat), (other, other_line, other_beat) in zip(rows, rows[1:]):
                    begin, end = LINE_BEATS * line + beat, LINE_BEATS * other_line + other_beat
                    if program[row][1] == "wait":
                        # Two beats, and what is left of the line in which they end.
                        self.assertEqual(end, -(-(begin + 2) // LINE_BEATS) * LINE_BEATS)
                    else:
                        self.assertIn(end - begin, self.beats(program, base, row, other))
                state = behind

    def beats(self, program, base, row, other):
        """The beats that a row can take towards another, by doing it with all flags and some x."""
        found = set()
        state = start(program)
        for zero in (0, 1):
            for carry in (0, 1):
                for x in range(256) if program[row][1] == "at" else (0,):
                    told = deed_done(program, base, (row, 0, x, zero, carry) + state[5:], 0)
                    if told[0] == other:
                        found.add(told[6])
        return found

    def test_a_write_changes_the_places_from_its_beat_on(self):
        chance = random.Random(57)
        for program, base, tale in self.programs(57, 30):
            for picture, log, rows, state in (self.played(program, base, tale) or [])[:2]:
                for number, (line, beat, door, value) in list(enumerate(log[2]))[:12]:
                    other = chance_byte(chance)
                    bent = log[:2] + (log[2][:number] + ((line, beat, door, other),) + log[2][number + 1:],)
                    drawn = quick(bent)
                    place = 2 * max(0, beat - 8)
                    self.assertEqual(drawn[:line], picture[:line])
                    self.assertEqual(drawn[line][:place], picture[line][:place])


class PapersTest(WholeCase):
    def test_what_is_told_is_let_by_and_is_so(self):
        counts = {"kept": 0, "late": 0, "whole": 0}
        for program, base, tale in self.programs(58, 120):
            try:
                told = judge(program, base, (tale, ()), 4)
            except TooMany:
                continue
            counts[told[0]] += 1
            if told[0] == "late":
                self.assertIs(right_late(program, base, told[1]), True)
                self.assertIs(right_times(program, base, told[1]), False)
                with self.assertRaises(NotWhole):
                    lines_of(program, base)
                self.check_number(program, base, (tale, ()), told[2])
                continue
            self.assertIs(right_times(program, base, told[1]), True)
            played = self.played(program, base, tale)
            if played is not None:
                self.assertIs(is_in_time(program, [frame[2] for frame in played]), True)
            counts["whole"] += self.check_lines(program, base, told[1], played)
        self.assertGreater(min(counts.values()), 10)

    def check_number(self, program, base, tales, number):
        """The first tale that makes a run late."""
        late = []
        for tale in tales:
            played = self.played(program, base, tale)
            late.append(played is not None and not is_in_time(program, [frame[2] for frame in played]))
        self.assertEqual(number, late.index(True) if True in late else None)

    def check_lines(self, program, base, cells, played):
        """Whether it is told as whole; then each frame has just these lines."""
        try:
            lines, paper = lines_of(program, base)
        except (NotWhole, TooMany):
            return False
        self.assertIs(right_frames(program, base, cells, lines, paper), True)
        self.assertEqual({len(frame[0]) for frame in played}, {lines})
        return True

    def test_windows_hold_each_write(self):
        found = 0
        for program, base, tale in self.programs(59, 90):
            try:
                sort, cells = times_of(program, base)
            except TooMany:
                continue
            played = self.played(program, base, tale) if sort == "kept" else None
            for picture, log, rows, state in played or []:
                for row, line, beat in rows:
                    if program[row][1] == "door":
                        first, last = window(program, base, cells, row)
                        found += 1
                        self.assertTrue(first <= beat + 3 <= last)
        self.assertGreater(found, 200)

    def test_spans_hold_what_runs_do(self):
        found = 0
        for program, base, tale in self.programs(60, 60):
            rows = [begun for told in (self.played(program, base, tale) or [])[:1] for begun in told[2]]
            for (row, line, beat), (other, other_line, other_beat) in zip(rows, rows[1:]):
                deeds = (program[row][1], program[other][1])
                if "wait" in deeds or row == other:
                    continue
                low, high = span(program, base, row, other)
                self.assertIs(right_low(program, base, row, other, low), True)
                self.assertIs(right_high(program, base, row, other, high), True)
                took = LINE_BEATS * (other_line - line) + other_beat - beat
                self.assertLessEqual(low[0], took)
                self.assertTrue(high[0] == "round" or took <= high[1])
                found += 1
        self.assertGreater(found, 300)


class FilledTest(WholeCase):
    def test_filled_and_judged(self):
        chance = random.Random(61)
        counts = {"filled": 0, "window": 0, "writes": 0}
        for program, base, tale in self.programs(61, 150):
            doors = [row for row in range(len(program)) if program[row][1] == "door"]
            for row in doors:
                beat = chance.randrange(32)
                try:
                    told = filled(program, row, beat)
                except (NoFill, NoProgram):
                    continue
                counts["filled"] += 1
                self.assertIs(right_filled(program, row, beat, told), True)
                self.check_filled(program, told, row, beat, tale, counts)
        self.assertGreater(min(counts.values()), 20)

    def check_filled(self, program, told, row, beat, tale, counts):
        """The same rows but for rests and idles; the write falls on the beat in a run, and its window is that one."""
        here = row + len(told) - len(program)
        self.assertEqual(told[:row] + told[here:], program)
        self.assertLessEqual({deed for mark, deed, value in told[row:here]}, {"rest", "idle"})
        if sum(lengths_of(told)) > 256:
            return
        for picture, log, rows, state in self.played(told, 0, tale) or []:
            begun = [begin for done, line, begin in rows if done == here]
            counts["writes"] += len(begun)
            self.assertEqual([begin + 3 for begin in begun], [beat] * len(begun))
        try:
            sort, cells = times_of(told, 0)
        except TooMany:
            return
        if sort == "kept" and cells[here]:
            counts["window"] += 1
            self.assertEqual(window(told, 0, cells, here), (beat, beat))

    def test_a_picture_moved_beat_by_beat(self):
        program = (("a", "wait", None), ("", "set", 5), ("", "door", 2), ("", "set", 0), ("", "door", 2),
                   ("", "door", 0), ("", "wait", None), ("", "go", "a"))
        for beat in range(8, 18):
            told = filled(program, 2, beat)
            self.assertEqual(lines_of(told, 0)[0], 2)
            self.assertEqual(judge(told, 0, ((),), 3)[0], "kept")
            first = 2 * (beat - 8)
            picture = run(told, 0, (), 1)[0][0]
            self.assertEqual(picture[1], (0,) * first + (5,) * 10 + (0,) * (38 - first))


class EveryTest(unittest.TestCase):
    def test_the_sample_with_every_deed(self):
        # Put to a text, to numbers and back, at each base with room.
        for base in range(0, 197, 28):
            numbers = numbers_of(read_program(program_text(EVERY)), base)
            again = read_numbers(numbers, base, code_of(EVERY))
            self.assertEqual(again, bare(EVERY))
            self.assertEqual(read_program(program_text(again)), again)


if __name__ == "__main__":
    unittest.main()

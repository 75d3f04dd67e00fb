import copy
import random
import unittest

from beamrows.cells import right_late, right_times
from beamrows.errors import NoRoom
from beamrows.flow import flow_of
from beamrows.outcomes import comes_of
from beamrows.states import start
from beamrows.steps import deed_done
from tests.chance import chance_base, chance_byte, chance_program
from tests.papers import beats_between, comes, is_table, keeps, least_cells, next_of
from tests.samples import (ANY, DOWN, EVERY, LEAST, PROGRAMS, SAME, TIMELY, UP, WAITS, anything, changed, lengths_of,
                           with_item)

FIRST = (0, 0, 1, 0, 0)

WAITS_CELLS = (((0, 0, 1, 0, 3),), ((0, 0, 1, 0, 0),))


def rests(count):
    return (("", "rest", None),) * count


def put(cells, row, entry):
    """The cells with another entry for a row."""
    return with_item(cells, row, tuple(entry))


def put_cell(cells, row, number, cell):
    """The cells with another cell in a row's entry, as it comes to stand in order."""
    return put(cells, row, sorted(set(with_item(cells[row], number, cell))))


class CellsCase(unittest.TestCase):
    def yes(self, program, thing, base=0):
        self.assertIs(right_times(program, base, thing), True)

    def no(self, program, thing, base=0):
        self.assertIs(right_times(program, base, thing), False)


class RightTimesTest(CellsCase):
    def test_by_hand(self):
        self.yes(WAITS, WAITS_CELLS)
        self.yes(WAITS, (((0, 255, 0, 0, 3),), ((0, 255, 0, 0, 0),)))
        self.yes(WAITS, (((0, 0, 1, 0, 0), (0, 0, 1, 3, 3)), ((0, 0, 1, 0, 0),)))
        self.yes(WAITS, (((0, 9, 0, 0, 30),), ((0, 9, 0, 0, 27),)))
        self.no(WAITS, (((0, 9, 0, 0, 30),), ((0, 9, 0, 0, 28),)))
        self.no(WAITS, (((0, 0, 1, 1, 3),), ((0, 0, 1, 0, 0),)))
        self.no(WAITS, (((0, 0, 1, 0, 2),), ((0, 0, 1, 0, 0),)))
        self.no(WAITS, (((0, 0, 1, 0, 3),), ()))
        self.no(WAITS, ((), ((0, 0, 1, 0, 0),)))
        self.no(WAITS, ((), ()))
        self.no(LEAST, (((0, 0, 1, 0, 0),),))
        self.no(LEAST, (((0, 0, 1, 0, 30),),))

    def test_counting_down_by_hand(self):
        cells = (
            ((0, 0, 1, 0, 7),),
            ((1, 1, 1, 5, 5), (2, 2, 1, 5, 5), (3, 3, 1, 2, 9)),
            ((1, 1, 1, 0, 0), (2, 2, 1, 0, 0), (3, 3, 1, 0, 0)),
            ((0, 0, 1, 2, 2), (1, 1, 1, 2, 2), (2, 2, 1, 2, 2)),
            ((0, 0, 1, 4, 4),),
        )
        self.yes(DOWN, cells)
        self.assertEqual(cells, least_cells(DOWN, 0))
        for row in range(5):
            for number, (low, high, zero, early, late) in enumerate(cells[row]):
                self.no(DOWN, put(cells, row, cells[row][:number] + cells[row][number + 1:]))
                if early < late:
                    self.no(DOWN, put_cell(cells, row, number, (low, high, zero, early + 1, late)))
                    self.no(DOWN, put_cell(cells, row, number, (low, high, zero, early, late - 1)))
                # One x more: where it comes to a row that has no cell for it, it is not kept.
                wider = put_cell(cells, row, number, (low, high + 1, zero, early, late))
                self.assertIs(right_times(DOWN, 0, wider), keeps(DOWN, 0, wider))
        self.no(DOWN, put_cell(cells, 2, 2, (3, 4, 1, 0, 0)))
        self.yes(DOWN, put_cell(cells, 0, 0, (0, 1, 0, 0, 7)))
        # Where zero says nothing of x, the loop is not left with x 0 alone.
        self.no(DOWN, put_cell(cells, 3, 0, (0, 0, 0, 2, 2)))

    def test_the_round_at_255(self):
        cells = least_cells(UP, 0)
        self.yes(UP, cells)
        self.assertEqual(cells[3], tuple(sorted([(0, 0, 1, 2, 2)] + [(x, x, 1, 2, 2) for x in range(251, 256)])))
        self.assertEqual(cells[4], ((0, 0, 1, 4, 4),))
        self.no(UP, put(cells, 3, cells[3][1:]))
        self.no(UP, put(cells, 3, cells[3][:-1]))
        # All x together, in one cell: those that go round come as a part of their own.
        wide = (((0, 0, 1, 0, 7),), ((1, 255, 1, 0, 9),), ((1, 255, 1, 0, 0),), ((0, 255, 1, 2, 2),), ((0, 0, 1, 4, 4),))
        self.yes(UP, wide)
        self.no(UP, put(wide, 3, [(2, 255, 1, 2, 2)]))
        self.yes(UP, put(wide, 3, [(0, 0, 1, 2, 2), (2, 255, 1, 2, 2)]))
        self.no(UP, put(wide, 3, [(0, 0, 1, 2, 2), (3, 255, 1, 2, 2)]))
        self.no(UP, put(wide, 3, [(0, 0, 1, 2, 2), (2, 254, 1, 2, 2)]))

    def test_the_round_at_0(self):
        program = (("a", "setx", 9), ("b", "wait", None), ("", "down", None), ("", "go", "b"))
        wide = (((0, 0, 1, 0, 0),), ((0, 255, 1, 2, 5),), ((0, 255, 1, 0, 0),), ((0, 255, 1, 2, 2),))
        self.yes(program, wide)
        self.yes(program, put(wide, 3, [(0, 254, 1, 2, 2), (255, 255, 1, 2, 2)]))
        self.no(program, put(wide, 3, [(0, 254, 1, 2, 2)]))
        self.no(program, put(wide, 3, [(0, 253, 1, 2, 2), (255, 255, 1, 2, 2)]))
        self.no(program, put(wide, 3, [(1, 254, 1, 2, 2), (255, 255, 1, 2, 2)]))
        # What comes of one cell is to be within one cell, not within two together.
        self.no(program, put(wide, 3, [(0, 100, 1, 2, 2), (101, 255, 1, 2, 2)]))

    def test_if_rows_by_the_zero_of_the_cell(self):
        # Rows 4 and 5 are come to from row 2 and 3 alone.
        for deed, mark_x, behind_x in (("ifz", (0, 0), (1, 9)), ("ifn", (1, 9), (0, 0))):
            program = (("a", "setx", 0), ("", "wait", None), ("", deed, "m"), ("", "go", "w"), ("m", "go", "w"),
                       ("w", "wait", None), ("", "go", "a"))
            all_x = (0, 9)

            def cells(zero, mark, behind, kept):
                return (((0, 9, 0, 0, 3),), ((0, 0, 1, 2, 5),), ((0, 9, zero, 0, 0),), (behind + (kept, 2, 2),),
                        (mark + (kept, 3, 3),), ((0, 9, 0, 5, 6),), ((0, 9, 0, 0, 0),))

            with self.subTest(deed=deed):
                self.yes(program, cells(1, all_x, all_x, 0))
                self.yes(program, cells(1, mark_x, behind_x, 1))
                self.no(program, cells(1, behind_x, mark_x, 1))
                self.yes(program, cells(0, all_x, all_x, 0))
                self.no(program, cells(0, mark_x, behind_x, 0))
                self.no(program, cells(0, all_x, all_x, 1))
            carry = tuple((mark, "ifc" if row == 2 else name, value) for row, (mark, name, value) in enumerate(program))
            self.yes(carry, cells(1, all_x, all_x, 1))
            self.no(carry, cells(1, mark_x, behind_x, 1))

    def test_if_rows_that_go_one_way_only(self):
        for deed, x, goes in (("ifz", 0, True), ("ifz", 1, False), ("ifn", 0, False), ("ifn", 1, True)):
            program = (("a", "setx", x), ("", deed, "m"), ("", "go", "w"), ("m", "go", "w"), ("w", "wait", None),
                       ("", "go", "a"))
            span = (x, x, 1)
            head = ((FIRST[:3] + (0, 3), span + (0, 3)), (span + (2, 5),))
            if x == 0:
                head = (((0, 0, 1, 0, 3),), (span + (2, 5),))
            tail = ((span + (0, 30),), (span + (0, 0),))
            behind, mark = (span + (0, 8),), (span + (0, 9),)
            with self.subTest(deed=deed, x=x):
                self.yes(program, head + (() if goes else behind, mark if goes else ()) + tail)
                self.no(program, head + (behind if goes else (), () if goes else mark) + tail)

    def test_an_if_row_whose_mark_is_the_row_behind(self):
        for deed in ("ifz", "ifn", "ifc", "ifd"):
            program = (("a", "get", 2), ("", deed, "b"), ("b", "wait", None), ("", "go", "a"))
            head = (((0, 0, 0, 0, 3),), ((0, 0, 0, 3, 6),))
            tail = (((0, 0, 0, 0, 0),),)
            self.yes(program, head + (((0, 0, 0, 5, 9),),) + tail)
            self.yes(program, head + (((0, 0, 0, 5, 8), (0, 0, 0, 6, 9)),) + tail)
            self.no(program, head + (((0, 0, 0, 5, 8),),) + tail)
            self.no(program, head + (((0, 0, 0, 6, 9),),) + tail)
        cells = least_cells(SAME, 0)
        self.assertEqual(cells[2], ((2, 2, 1, 4, 7),))
        self.yes(SAME, cells)

    def test_page_signs_of_if_rows(self):
        # The row behind the if-row is at base + 4, its mark at base + 4 + rests.
        program = (("a", "get", 2), ("", "ifz", "b"), *rests(3), ("b", "wait", None), ("", "go", "a"))
        for base, more in ((0, 0), (24, 0), (25, 1), (27, 1), (28, 0)):
            def cells(late):
                waits = ((0, 0, 0, 6, late),)
                return (((0, 0, 0, 0, 3),), ((0, 0, 0, 3, 6),), ((0, 0, 0, 5, 8),), ((0, 0, 0, 7, 10),),
                        ((0, 0, 0, 9, 12),), waits, ((0, 0, 0, 0, 0),))

            narrow = (((0, 0, 0, 0, 3),), ((0, 0, 0, 3, 6),), ((0, 0, 0, 5, 8),), ((0, 0, 0, 7, 10),),
                      ((0, 0, 0, 9, 12),), ((0, 0, 0, 6, 9), (0, 0, 0, 11, 14)), ((0, 0, 0, 0, 0),))
            with self.subTest(base=base):
                self.yes(program, cells(14), base)
                self.no(program, cells(13), base)
                self.assertIs(right_times(program, base, narrow), more == 0)

    def test_at_by_the_cells_x(self):
        program = (("a", "setx", 0), ("", "at", "t"), ("", "wait", None), ("", "go", "a"), ("t", "data", 1))
        # The table row is at base + 7: x up to 24 - base are on its page.
        for base, edge in ((0, 24), (10, 14), (24, 0)):
            for low, high, beats in ((edge, edge, (4, 4)), (edge + 1, edge + 1, (5, 5)), (edge, edge + 1, (4, 5)),
                                     (0, edge, (4, 4)), (edge + 1, 255, (5, 5)), (0, 255, (4, 5))):
                first, last = beats
                head = (((0, 255, 0, 0, 3),), tuple(sorted([(0, 0, 1, 2, 5), (low, high, 0, 10, 10)])))

                def cells(wide_first, wide_last):
                    waits = tuple(sorted([(0, 0, 0, 6, 9), (low, high, 0, wide_first, wide_last)]))
                    return head + (waits, ((0, 255, 0, 0, 0),), ())

                with self.subTest(base=base, low=low, high=high):
                    self.yes(program, cells(10 + first, 10 + last), base)
                    self.no(program, cells(10 + first + 1, 16), base)
                    self.no(program, cells(10, 10 + last - 1), base)

    def test_zero_isnt_less(self):
        for row in range(2):
            for high in (0, 5):
                cells = (((0, high, 0, 0, 3),), ((0, high, 0, 0, 0),))
                self.yes(WAITS, cells)
                # A cell that says less of zero does not come to be one that says more.
                told = put(cells, row, [(0, high, 1, 0, 3 if row == 0 else 0)])
                self.assertIs(right_times(WAITS, 0, told), False)
        self.yes(WAITS, (((0, 5, 1, 0, 3),), ((0, 5, 1, 0, 0),)))
        self.no(WAITS, (((0, 5, 1, 0, 2),), ((0, 5, 1, 0, 0),)))

    def test_the_beginning(self):
        for cell in ((0, 0, 1, 0, 3), (0, 0, 0, 0, 3), (0, 255, 1, 0, 30), (0, 9, 0, 0, 30)):
            self.yes(WAITS, ((cell,), (cell[:3] + (0, 0),)))
        for cell in ((1, 9, 1, 0, 3), (0, 0, 1, 1, 3)):
            self.no(WAITS, ((cell,), (cell[:3] + (0, 0),)))
        # A cell that says more of zero than the first one does not let it by, but for zero 1 itself.
        self.yes(WAITS, (((0, 0, 1, 0, 3), (1, 9, 1, 0, 3)), ((0, 0, 1, 0, 0), (1, 9, 1, 0, 0))))

    def test_bounds_of_the_beats(self):
        for late, wanted in ((27, True), (28, False)):
            program = (("a", "wait", None), *rests(12), ("", "go", "a"))
            cells = [((0, 0, 0, 0, late + 3),)] + [((0, 0, 0, 2 * k, 2 * k + late - 24),) for k in range(12)]
            cells.append(((0, 0, 0, 24, late),))
            self.assertIs(right_times(program, 0, tuple(cells)), wanted)

    def test_no_room_ahead_of_all(self):
        for program in PROGRAMS + TIMELY:
            last = 256 - sum(lengths_of(program))
            for base in {last + 1, 255} - {last}:
                for thing in (None, (), [], WAITS_CELLS):
                    with self.assertRaises(NoRoom):
                        right_times(program, base, thing)
                    with self.assertRaises(NoRoom):
                        right_late(program, base, thing)
            self.assertIs(right_times(program, last, None), False)
            self.assertIs(right_late(program, last, None), False)


class FormTest(CellsCase):
    def test_order(self):
        two = ((0, 0, 0, 0, 3), (0, 0, 1, 0, 3))
        self.yes(WAITS, (two, ((0, 0, 0, 0, 0),)))
        self.no(WAITS, (two[::-1], ((0, 0, 0, 0, 0),)))
        self.no(WAITS, (two[:1] * 2, ((0, 0, 0, 0, 0),)))
        self.no(WAITS, (WAITS_CELLS[0], WAITS_CELLS[1] * 2))
        self.no(WAITS, (two + two[:1], ((0, 0, 0, 0, 0),)))
        for program in (DOWN, UP, ANY):
            cells = least_cells(program, 0)
            self.yes(program, cells)
            for row, entry in enumerate(cells):
                for number in range(len(entry)):
                    self.no(program, put(cells, row, entry[:number] + entry[number:number + 1] + entry[number:]))
                if len(entry) > 1:
                    self.no(program, put(cells, row, entry[::-1]))

    def test_each_number_out_of_its_bounds(self):
        wide = (((0, 255, 0, 0, 30),), ((0, 255, 0, 0, 0),))
        self.yes(WAITS, wide)
        for row in (0, 1):
            for at, wrong in ((0, -1), (1, 256), (2, 2), (2, -1), (3, -1), (4, 31), (4, 10 ** 5000), (0, -10 ** 5000)):
                self.no(WAITS, put(wide, row, [with_item(wide[row][0], at, wrong)]))
        # A cell that nothing comes to is one by its form all the same.
        spare = (1, 1, 1, 1, 1)
        self.yes(WAITS, put(wide, 0, [wide[0][0], spare]))
        for at, wrong in ((0, -1), (0, 256), (1, 256), (2, -1), (2, 2), (3, -1), (4, 31)):
            self.no(WAITS, put(wide, 0, sorted([wide[0][0], with_item(spare, at, wrong)])))
        self.no(WAITS, (((0, 0, -1, 0, 3),), ((0, 0, -1, 0, 0),)))
        self.no(WAITS, (((0, 255, 0, 0, 3), (5, 4, 0, 0, 0)), ((0, 255, 0, 0, 0),)))
        self.no(WAITS, (((0, 255, 0, 0, 3), (5, 5, 0, 2, 1)), ((0, 255, 0, 0, 0),)))
        self.yes(WAITS, (((0, 255, 0, 0, 3), (5, 5, 0, 2, 2)), ((0, 255, 0, 0, 0),)))

    def test_another_kind(self):
        wide = (((0, 255, 0, 0, 3), (1, 1, 1, 1, 1)), ((0, 255, 0, 0, 0),))
        self.yes(WAITS, wide)
        for thing in (True, False, None, "", "1", (), (1,), [], [1], {}, {1: 1}):
            for at in range(5):
                self.no(WAITS, put(wide, 0, [wide[0][0], with_item((1, 1, 1, 1, 1), at, thing)]))
            self.no(WAITS, put(wide, 0, [wide[0][0], thing]))
            self.no(WAITS, with_item(wide, 0, thing))
            self.no(WAITS, thing)
        self.no(WAITS, list(wide))
        self.no(WAITS, with_item(wide, 0, list(wide[0])))
        self.no(WAITS, put(wide, 0, [list(wide[0][0])]))
        self.no(WAITS, {0: wide[0], 1: wide[1]})

    def test_an_entry_more_or_fewer(self):
        for program in TIMELY:
            cells = least_cells(program, 0)
            self.yes(program, cells)
            self.no(program, cells + ((),))
            self.no(program, cells[:-1])
            self.no(program, ((),) + cells)
            self.no(program, ())
        self.no(WAITS, (((0, 0, 1, 0),), WAITS_CELLS[1]))
        self.no(WAITS, (((0, 0, 1, 0, 3, 0),), WAITS_CELLS[1]))

    def test_a_table_row_has_none(self):
        cells = least_cells(ANY, 0)
        self.yes(ANY, cells)
        self.assertEqual(cells[8:], ((), ()))
        for row in (8, 9):
            for cell in ((0, 0, 1, 0, 0), (0, 255, 0, 0, 0)):
                self.no(ANY, put(cells, row, [cell]))
            for thing in (None, [], 0, ""):
                self.no(ANY, with_item(cells, row, thing))

    def test_a_row_that_is_never_come_to_may_have_some(self):
        program = (("a", "wait", None), ("", "go", "a"), ("", "rest", None), ("b", "go", "b"))
        self.yes(program, WAITS_CELLS + ((), ()))
        self.no(program, WAITS_CELLS + (((0, 0, 1, 0, 0),), ()))
        program = program[:3] + (("b", "wait", None), ("", "go", "b"))
        self.yes(program, WAITS_CELLS + (((0, 9, 1, 7, 9),), ((0, 9, 1, 3, 11),), ((0, 9, 1, 0, 0),)))

    def test_3000_together(self):
        spare = [(low, high, zero, 0, 5) for low in range(256) for high in range(low, 256) for zero in (0, 1)]
        for many in (2998, 2999, 3000, 5000):
            first = sorted([(0, 255, 0, 0, 3)] + spare[:many - 2])
            cells = (tuple(first), ((0, 255, 0, 0, 0),))
            self.assertEqual(sum(len(entry) for entry in cells), many)
            self.assertIs(right_times(WAITS, 0, cells), many <= 3000)
        cells = (tuple(sorted([(0, 255, 0, 0, 3)] + spare[:2999])), ((0, 255, 0, 0, 0),))
        self.assertEqual(sum(len(entry) for entry in cells), 3001)
        self.no(WAITS, cells)

    def test_3000_in_two_rows(self):
        spare = [(low, high, zero) for low in range(256) for high in range(low, 256) for zero in (0, 1)][:1500]
        cells = (tuple(sorted(span + (0, 3) for span in spare)), tuple(sorted(span + (0, 0) for span in spare)))
        self.yes(WAITS, cells)
        self.no(WAITS, put(cells, 1, cells[1] + ((255, 255, 1, 0, 0),)))

    def test_anything(self):
        wide = (((0, 255, 0, 0, 30),), ((0, 255, 0, 0, 0),))
        for k, thing in enumerate(anything()):
            with self.subTest(k):
                kept = copy.deepcopy(thing)
                for program in (LEAST, WAITS, ANY, EVERY):
                    self.no(program, thing)
                    self.no(program, (thing,) * len(program))
                    self.no(program, ((thing,),) * len(program))
                self.no(WAITS, put(wide, 0, [thing]))
                self.no(WAITS, put(wide, 1, [wide[1][0], thing]))
                for at in range(5):
                    bent = put(wide, 0, [(0, 255, 0, 0, 30), with_item((7, 7, 1, 3, 3), at, thing)])
                    # A high of 16 or 20 is one, and so is such a late.
                    fits = at in (1, 4) and thing.__class__ is int and thing in (16, 20)
                    self.assertIs(right_times(WAITS, 0, bent), fits)
                self.assertEqual(thing, kept)


class ComesTest(CellsCase):
    def test_each_deed(self):
        spans = ((0, 0), (0, 1), (0, 255), (1, 1), (1, 255), (5, 9), (254, 255), (255, 255), (0, 254))
        for base in (0, 3, 100, 196):
            flow = flow_of(EVERY, base)
            for row in range(len(EVERY)):
                for low, high in spans if not is_table(EVERY, row) else ():
                    for zero in (0, 1):
                        cell = (low, high, zero, 4, 9)
                        with self.subTest(base=base, row=row, cell=cell):
                            self.assertEqual(comes_of(flow, row, cell), comes(EVERY, base, row, cell))

    def test_what_the_machine_does_is_among_what_comes(self):
        chance = random.Random(25)
        for k in range(2500):
            program = chance_program(chance, 12, 10)
            base = chance_base(chance, program)
            row = chance.choice([row for row in range(len(program)) if not is_table(program, row)])
            low, high = sorted((chance_byte(chance), chance_byte(chance)))
            zero = chance.randrange(2)
            x = chance.randrange(low, high + 1)
            state = changed(start(program), row=row, a=chance_byte(chance), x=x, carry=chance.randrange(2),
                            zero=int(x == 0) if zero else chance.randrange(2),
                            memory=tuple(chance_byte(chance) for _ in range(16)))
            follow, a, x, flag, carry, memory, beats = deed_done(program, base, state, chance_byte(chance))
            early, late = (0, 0) if program[row][1] == "wait" else (7 + beats, 7 + beats)
            found = [cell for there, cell in comes_of(flow_of(program, base), row, (low, high, zero, 7, 7))
                     if there == follow and cell[0] <= x <= cell[1] and cell[3] <= early and late <= cell[4]
                     and (cell[2] == 0 or flag == int(x == 0))]
            with self.subTest(k):
                self.assertNotEqual(found, [])


class BentTest(CellsCase):
    def bent(self, chance, cells):
        """The cells with one of them left out, wider, narrower, moved or told otherwise; None where it is no cell."""
        row = chance.choice([row for row, entry in enumerate(cells) if entry])
        number = chance.randrange(len(cells[row]))
        low, high, zero, early, late = cells[row][number]
        sort = chance.randrange(7)
        step = chance.choice((1, 1, 2, 5, 100))
        cell = {0: None, 1: (low - step, high, zero, early, late), 2: (low, high + step, zero, early, late),
                3: (low + step, high, zero, early, late), 4: (low, high, 1 - zero, early, late),
                5: (low, high, zero, early - step, late + step), 6: (low, high, zero, early + step, late)}[sort]
        if cell is None:
            return put(cells, row, cells[row][:number] + cells[row][number + 1:])
        if not (0 <= cell[0] <= cell[1] <= 255 and 0 <= cell[3] <= cell[4] <= 30):
            return None
        return put_cell(cells, row, number, cell)

    def test_timely_programs(self):
        chance = random.Random(24)
        for program in TIMELY:
            for base in (0, 20, 100):
                cells = least_cells(program, base)
                self.yes(program, cells, base)
                for k in range(60):
                    bent = self.bent(chance, cells)
                    if bent is not None:
                        self.assertIs(right_times(program, base, bent), keeps(program, base, bent))

    def test_by_chance(self):
        chance = random.Random(23)
        counts = {True: 0, False: 0}
        for k in range(250):
            program = chance_program(chance, 8, chance.choice((20, 40, 60)))
            base = chance_base(chance, program)
            cells = least_cells(program, base, 200)
            if cells is None:
                continue
            with self.subTest(k):
                self.yes(program, cells, base)
                for _ in range(6):
                    bent = self.bent(chance, cells)
                    if bent is not None:
                        wanted = keeps(program, base, bent)
                        counts[wanted] += 1
                        self.assertIs(right_times(program, base, bent), wanted)
        self.assertGreater(counts[True], 30)
        self.assertGreater(counts[False], 100)


class RightLateTest(unittest.TestCase):
    LONG = (("a", "rest", None),) + rests(59) + (("", "go", "a"),)

    def yes(self, program, thing, base=0):
        self.assertIs(right_late(program, base, thing), True)

    def no(self, program, thing, base=0):
        self.assertIs(right_late(program, base, thing), False)

    def test_lengths(self):
        self.no(self.LONG, (0,))
        self.no(self.LONG, ())
        for many in range(2, 17):
            self.no(self.LONG, tuple(range(many)))
        for many in range(17, 41):
            self.yes(self.LONG, tuple(range(many)))
        for many in (41, 42, 60):
            self.no(self.LONG, tuple(range(many)))
        # Two rows would take more than 30 beats by no row that there is.
        self.no((("a", "idle", None), ("", "go", "a")), (0, 1))

    def test_30_and_31_beats(self):
        # 15 rests are 30 beats, 14 rests and an idle 31.
        for row in range(15):
            idle = with_item(self.LONG, row, (self.LONG[row][0], "idle", None))
            self.yes(idle, tuple(range(16)))
            self.no(idle, tuple(range(15)))
        # The last one's beats do not count.
        self.no(with_item(self.LONG, 15, ("", "idle", None)), tuple(range(16)))
        self.no(with_item(self.LONG, 15, ("", "wait", None)), tuple(range(16)))

    def test_where_it_begins(self):
        program = with_item(self.LONG, 9, ("", "wait", None))
        self.yes(program, tuple(range(10, 27)))
        self.no(program, tuple(range(11, 28)))
        self.no(program, tuple(range(1, 18)))
        self.no(self.LONG, tuple(range(1, 18)))
        self.no(self.LONG, tuple(range(10, 27)))
        # With the wait itself it does not begin.
        self.no(program, tuple(range(9, 26)))

    def test_row_0_that_is_a_wait(self):
        program = with_item(self.LONG, 0, ("a", "wait", None))
        self.no(program, tuple(range(17)))
        self.yes(program, tuple(range(1, 18)))

    def test_a_wait_in_the_midst_and_at_the_end(self):
        for at in range(1, 16):
            self.no(with_item(self.LONG, at, ("", "wait", None)), tuple(range(17)))
        self.yes(with_item(self.LONG, 16, ("", "wait", None)), tuple(range(17)))

    def test_a_row_that_is_no_next_row(self):
        good = tuple(range(20))
        for at in range(20):
            for wrong in (-1, at - 1, at + 1, 40, 60, 61, 10 ** 5000):
                if wrong != at:
                    self.no(self.LONG, with_item(good, at, wrong))

    def test_round_by_a_go(self):
        program = (("a", "rest", None), ("", "go", "a"))
        for many in range(2, 41):
            way = tuple(k % 2 for k in range(many))
            beats = sum((2, 3)[k % 2] for k in range(many - 1))
            self.assertIs(right_late(program, 0, way), beats > 30)
        self.no(LEAST, (0,) * 11)
        self.yes(LEAST, (0,) * 12)
        self.yes(LEAST, (0,) * 40)
        self.no(LEAST, (0,) * 41)

    def test_the_most_beats_of_if_rows(self):
        # 13 rests are 26 beats, the if-row has 2 or 3, a rest behind it 2.
        for deed in ("ifz", "ifn", "ifc", "ifd"):
            program = (("a", "rest", None),) + rests(12) + (("", deed, "m"), ("", "rest", None), ("m", "rest", None),
                                                           ("", "rest", None), ("", "go", "a"))
            self.no(program, tuple(range(14)) + (14,))
            self.no(program, tuple(range(14)) + (14, 15))
            self.no(program, tuple(range(14)) + (15,))
            self.yes(program, tuple(range(14)) + (15, 16))

    def test_the_page_sign_of_an_if_row(self):
        # An idle, 11 rests, an if-row to its mark, a rest: 3, 22, 3 or 4, and 2 beats.
        program = (("a", "idle", None),) + rests(11) + (("", "ifz", "m"), ("", "rest", None), ("m", "rest", None),
                                                       ("", "rest", None), ("", "go", "a"))
        way = tuple(range(13)) + (14, 15)
        # The row behind is at base + 14, the mark at base + 15.
        self.no(program, way, 0)
        self.no(program, way, 16)
        self.yes(program, way, 17)
        self.no(program, way, 18)
        self.yes(program, way, 49)

    def test_the_greater_where_two_ways_lead_there(self):
        program = (("a", "rest", None),) + rests(13) + (("", "ifz", "m"), ("m", "rest", None), ("", "go", "a"))
        self.yes(program, tuple(range(16)))
        program = with_item(program, 14, ("", "rest", None))
        program = with_item(program, 15, ("", "rest", None))
        self.no(program, tuple(range(16)))

    def test_the_most_beats_of_at(self):
        # 13 rests and an at: 26 and 5.
        program = (("a", "rest", None),) + rests(12) + (("", "at", "t"), ("", "rest", None), ("", "go", "a"), ("t", "data", 0))
        for base in (0, 11, 12, 13, 100):
            self.yes(program, tuple(range(15)), base)
            self.no(with_item(program, 13, ("", "lay", 0)), tuple(range(15)), base)

    def test_another_kind(self):
        good = tuple(range(17))
        self.no(self.LONG, list(good))
        self.no(self.LONG, {k: k for k in good})
        self.no(self.LONG, (good,))
        for at in range(17):
            for thing in (True, False, None, "", "1", (), (at,), [], [at], {}):
                self.no(self.LONG, with_item(good, at, thing))

    def test_table_rows(self):
        program = (("a", "at", "t"), ("", "go", "a"), ("t", "data", 0), ("", "data", 0))
        self.yes(program, (0, 1) * 5)
        self.no(program, (0, 1) * 5 + (2,))
        self.no(program, (0, 1) * 5 + (0, 2))
        self.no(program, (2, 3) * 5)

    def test_anything(self):
        good = tuple(range(17))
        for k, thing in enumerate(anything()):
            with self.subTest(k):
                kept = copy.deepcopy(thing)
                for program in (LEAST, EVERY, self.LONG):
                    self.no(program, thing)
                    self.no(program, (thing,) * 20)
                for at in (0, 5, 16):
                    # The one right thing among them is the number that stands there already.
                    fits = thing.__class__ is int and thing == at
                    self.assertIs(right_late(self.LONG, 0, with_item(good, at, thing)), fits)
                self.assertEqual(thing, kept)

    def test_by_chance(self):
        chance = random.Random(26)
        counts = {True: 0, False: 0}
        for k in range(1500):
            program = chance_program(chance, 30, 10)
            base = chance_base(chance, program)
            follows, beats = next_of(program, base), beats_between(program, base)
            begins = [0] + [row + 1 for row in range(len(program)) if program[row][1] == "wait"]
            way = [chance.choice(begins)]
            for _ in range(chance.randrange(6, 45)):
                if program[way[-1]][1] == "wait" and chance.randrange(10):
                    break
                way.append(chance.choice(follows[way[-1]]))
            most = sum(beats[step][1] for step in zip(way, way[1:]))
            wanted = 2 <= len(way) <= 40 and most > 30 and not any(program[row][1] == "wait" for row in way[:-1])
            counts[wanted] += 1
            with self.subTest(k):
                self.assertIs(right_late(program, base, tuple(way)), wanted)
        self.assertGreater(min(counts.values()), 100)


if __name__ == "__main__":
    unittest.main()

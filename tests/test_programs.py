import copy
import unittest

from beamrows.errors import NoProgram
from beamrows.programs import check, next_rows, row_of
from tests.samples import EVERY, LEAST, LINES, PROGRAMS, anything, marked, rests, tabled, with_part, with_row
from tests.test_deeds import told

GREATEST = {"byte": 255, "memory": 15, "door": 19, "eye": 5, "table": 255}


class CheckTest(unittest.TestCase):
    def refused(self, thing):
        with self.assertRaises(NoProgram) as caught:
            check(thing)
        self.assertIs(caught.exception.__class__, NoProgram)

    def test_programs(self):
        for program in PROGRAMS:
            with self.subTest(rows=len(program)):
                self.assertIs(check(program), True)

    def test_every_deed_is_in_the_sample(self):
        self.assertEqual({row[1] for row in EVERY}, {row[0] for row in told()})

    def test_how_many_rows(self):
        self.assertIs(check(rests(120)), True)
        self.assertIs(check(tabled(118)), True)
        self.assertIs(check(marked(120)), True)
        self.refused(())
        self.refused(rests(121))
        self.refused(tabled(119))
        self.refused(rests(200))

    def test_marks(self):
        for mark in ("a", "z", "abcdefgh", "zzzzzzzz", "go", "set", "data", "wait", "ifz"):
            with self.subTest(mark):
                self.assertIs(check(((mark, "go", mark),)), True)
        for one, other in (("abcdefgh", "abcdefgi"), ("abcdefgh", "bbcdefgh"), ("a", "b"), ("ab", "abc")):
            with self.subTest(one=one, other=other):
                self.assertIs(check(((one, "go", other), (other, "go", one))), True)

    def test_marks_that_are_none(self):
        wrong = ("A", "aB", "a1", "1", "a ", " a", "a_b", "abcdefghi", "a\n", "`", "{", "a-b", "~", " ")
        for mark in wrong:
            with self.subTest(mark):
                self.refused(((mark, "go", mark),))
                self.refused(((mark, "rest", None), ("a", "go", "a")))
                self.refused((("", "ifz", mark), ("a", "go", "a")))
        self.refused((("", "go", ""),))
        self.refused((("a", "go", ""),))

    def test_values_at_their_bounds(self):
        tail = (("end", "go", "end"),)
        for deed, sort, _, _ in told():
            if sort not in GREATEST:
                continue
            for value in (0, 1, GREATEST[sort]):
                row = (("", deed, value),)
                with self.subTest(deed=deed, value=value):
                    self.assertIs(check(tail + row if sort == "table" else row + tail), True)
            for value in (-1, GREATEST[sort] + 1, True, False, None, "a", "0", "", (0,), [0], {}, 10 ** 5000):
                row = (("", deed, value),)
                with self.subTest(deed=deed, value=str(value)[:9] if value != 10 ** 5000 else "huge"):
                    self.refused(tail + row if sort == "table" else row + tail)

    def test_values_of_plain_deeds(self):
        tail = (("end", "go", "end"),)
        for deed, sort, _, _ in told():
            if sort == "plain":
                self.assertIs(check((("", deed, None),) + tail), True)
                for value in (0, 1, False, True, "", "end", (), [], {}):
                    with self.subTest(deed=deed, value=value):
                        self.refused((("", deed, value),) + tail)

    def test_values_of_mark_deeds(self):
        tail = (("end", "go", "end"), ("table", "data", 0))
        for deed, sort, _, _ in told():
            if sort == "mark":
                right, wrong = ("table", "end") if deed == "at" else ("end", "table")
                with self.subTest(deed):
                    self.assertIs(check((("", deed, right),) + tail), True)
                    self.refused((("", deed, wrong),) + tail)
                    for value in ("nobody", "en", "endd", "", None, 0, True, False, ("end",), ["end"], {}, "END"):
                        self.refused((("", deed, value),) + tail)

    def test_rows_that_are_none(self):
        tail = (("a", "go", "a"),)
        for row in ((), ("",), ("", "rest"), ("", "rest", None, None), ["", "rest", None], "rest", None, 0, True,
                    {"": "rest"}, "abc", (("", "rest", None),)):
            with self.subTest(row=row):
                self.refused((row,) + tail)
                self.refused(tail + (row,))

    def test_what_is_no_tuple(self):
        for thing in (None, 0, True, "", "a", "go", [], {}, [("a", "go", "a")], list(EVERY), {0: LEAST[0]}):
            with self.subTest(thing=thing):
                self.refused(thing)

    def test_deeds_that_are_none(self):
        for deed in ("", "Set", "SET", "sets", "se", "set ", "nop", "table", "byte", "plain", "mark", None, 0, True,
                     ("set",), ["set"], {"set": 1}):
            with self.subTest(deed=deed):
                self.refused((("", deed, 0), ("a", "go", "a")))
                self.refused((("", deed, None), ("a", "go", "a")))
                self.refused((("", deed, "a"), ("a", "go", "a")))

    def test_a_mark_borne_twice(self):
        self.refused((("a", "go", "a"), ("a", "go", "a")))
        self.refused((("a", "rest", None), ("b", "rest", None), ("a", "go", "b")))
        self.refused((("a", "go", "a"), ("t", "data", 0), ("t", "data", 0)))
        self.refused((("a", "go", "a"), ("a", "data", 0)))
        self.assertIs(check((("", "rest", None), ("", "rest", None), ("a", "go", "a"), ("", "data", 0))), True)

    def test_a_mark_that_is_not_borne(self):
        self.refused((("", "go", "a"),))
        self.refused((("b", "go", "a"),))
        self.refused((("a", "ifz", "b"), ("", "go", "a")))
        self.refused((("", "at", "t"), ("a", "go", "a"), ("", "data", 0)))

    def test_a_mark_that_no_value_names_may_be_borne(self):
        self.assertIs(check((("b", "rest", None), ("a", "go", "a"), ("c", "data", 0))), True)

    def test_table_rows_stand_last(self):
        self.refused((("", "data", 0),))
        self.refused((("t", "data", 0), ("", "data", 1)))
        self.refused((("", "data", 0), ("a", "go", "a")))
        self.refused((("", "data", 0), ("a", "go", "a"), ("", "go", "a")))
        self.refused((("a", "go", "a"), ("", "data", 0), ("b", "go", "a")))
        self.refused((("a", "go", "a"), ("", "data", 0), ("b", "go", "a"), ("", "go", "a")))
        self.refused((("a", "go", "a"), ("", "data", 0), ("", "rest", None), ("b", "go", "a"), ("", "data", 0)))

    def test_the_last_of_the_others_is_a_go(self):
        for deed, sort, _, _ in told():
            value = {"plain": None, "mark": "a"}.get(sort, 0)
            if deed not in ("go", "data"):
                value = "t" if deed == "at" else value
                with self.subTest(deed):
                    self.refused((("a", "go", "a"), ("", deed, value), ("t", "data", 0)))
                    self.refused((("a", "go", "a"), ("", deed, value)))
        self.refused((("", "rest", None),))

    def test_anything(self):
        for k, thing in enumerate(anything()):
            with self.subTest(k):
                self.refused(thing)

    def test_anything_in_the_place_of_a_row(self):
        for program in (LEAST, LINES, EVERY):
            for at in range(len(program)):
                for k, thing in enumerate(anything()):
                    with self.subTest(at=at, k=k):
                        self.refused(with_row(program, at, thing))

    def test_anything_in_the_place_of_a_part(self):
        for program in (LEAST, LINES, EVERY):
            for at in range(len(program)):
                for part in (0, 1, 2):
                    for k, thing in enumerate(anything()):
                        if not self.would_do(program[at][1], part, thing):
                            with self.subTest(at=at, part=part, k=k):
                                self.refused(with_part(program, at, part, thing))

    def would_do(self, deed, part, thing):
        """Whether the thing may stand there after all."""
        sort = {row[0]: row[1] for row in told()}[deed]
        if part != 2:
            return False
        if sort == "plain":
            return thing is None
        return sort in GREATEST and thing.__class__ is int and 0 <= thing <= GREATEST[sort]

    def test_what_is_handed_in_stays_as_it_was(self):
        for thing in anything():
            kept = copy.deepcopy(thing)
            self.refused(thing)
            self.assertEqual(thing, kept)


class NextRowsTest(unittest.TestCase):
    def test_each_sort_of_row(self):
        jumps = {22: [23, 24], 23: [24, 32], 24: [25, 32], 25: [0, 26], 31: [0], 32: [32], 33: [], 34: [], 35: []}
        for row in range(len(EVERY)):
            with self.subTest(row=row, deed=EVERY[row][1]):
                self.assertEqual(next_rows(EVERY, row), jumps.get(row, [row + 1]))
                self.assertIs(next_rows(EVERY, row).__class__, list)

    def test_an_if_row_whose_mark_is_the_row_behind(self):
        for deed in ("ifz", "ifn", "ifc", "ifd"):
            self.assertEqual(next_rows((("", deed, "a"), ("a", "go", "a")), 0), [1])

    def test_an_if_row_that_leads_up_to_itself_and_down(self):
        for deed in ("ifz", "ifn", "ifc", "ifd"):
            program = (("up", "rest", None), ("self", deed, "up"), ("", deed, "self"), ("", deed, "end"),
                       ("here", deed, "here"), ("end", "go", "up"))
            self.assertEqual([next_rows(program, row) for row in range(6)],
                             [[1], [0, 2], [1, 3], [4, 5], [4, 5], [0]])

    def test_a_go_and_the_rows_of_a_table(self):
        program = (("", "go", "b"), ("a", "wait", None), ("b", "go", "a"), ("", "data", 1), ("", "data", 2))
        self.assertEqual([next_rows(program, row) for row in range(5)], [[2], [2], [1], [], []])
        self.assertEqual(next_rows(LEAST, 0), [0])

    def test_a_list_may_be_changed(self):
        for program in PROGRAMS:
            for row in range(len(program)):
                first = next_rows(program, row)
                kept = list(first)
                first.append(99)
                first.reverse()
                self.assertEqual(next_rows(program, row), kept)

    def test_numbers_somewhat_beyond_raise_no_error(self):
        for row in (-1, len(EVERY), len(EVERY) + 1):
            self.assertEqual(next_rows(EVERY, row), [])
        for row in (-1, 1, 2):
            self.assertEqual(next_rows(LEAST, row), [])


class RowOfTest(unittest.TestCase):
    def test_each_mark(self):
        for program in PROGRAMS:
            for row, (mark, _, _) in enumerate(program):
                if mark != "":
                    self.assertEqual(row_of(program, mark), row)

    def test_marks_by_hand(self):
        self.assertEqual([row_of(EVERY, mark) for mark in ("begin", "unused", "near", "end", "table")],
                         [0, 18, 24, 32, 34])


if __name__ == "__main__":
    unittest.main()

import copy
import string
import unittest

from beamrows.errors import NoNumbers, NoRoom
from beamrows.numbers import bare, numbers_of, read_numbers
from beamrows.programs import check
from tests.samples import (EVERY, LEAST, LINES, PROGRAMS, anything, bases_of, code_of, lengths_of, marked, rests,
                           tabled, with_item)

NAMES = list(string.ascii_lowercase) + [a + b for a in string.ascii_lowercase for b in string.ascii_lowercase]

EVERY_AT_0 = (0, 255, 1, 0, 2, 7, 3, 0, 4, 15, 5, 1, 6, 2, 7, 3, 8, 4, 9, 5, 10, 6, 11, 7, 12, 8,
              13, 14, 15, 16, 17, 18, 19, 20, 21, 23, 39, 24, 55, 25, 55, 26, 0, 27, 58, 28, 19, 28, 0,
              29, 5, 29, 0, 22, 0, 22, 55, 9, 255, 0)


def renamed(program, name):
    """The program with other names for its marks."""
    return tuple((name(mark) if mark else "", deed, name(value) if isinstance(value, str) else value)
                 for mark, deed, value in program)


class NumbersOfTest(unittest.TestCase):
    def test_by_hand(self):
        self.assertEqual(numbers_of(LEAST, 0), (22, 0))
        self.assertEqual(numbers_of(LEAST, 77), (22, 77))
        self.assertEqual(numbers_of(LEAST, 254), (22, 254))
        self.assertEqual(numbers_of(LINES, 0), (0, 3, 28, 2, 21, 16, 24, 4, 22, 0))
        self.assertEqual(numbers_of(LINES, 246), (0, 3, 28, 2, 21, 16, 24, 250, 22, 246))
        self.assertEqual(numbers_of(EVERY, 0), EVERY_AT_0)

    def test_another_base_moves_marks_alone(self):
        marks = (36, 38, 40, 42, 44, 54, 56)
        for base in bases_of(EVERY):
            told = tuple(n + base if at in marks else n for at, n in enumerate(EVERY_AT_0))
            self.assertEqual(numbers_of(EVERY, base), told)

    def test_lengths(self):
        for program in PROGRAMS:
            for base in bases_of(program):
                numbers = numbers_of(program, base)
                self.assertIs(numbers.__class__, tuple)
                self.assertEqual(len(numbers), sum(lengths_of(program)))
                self.assertTrue(all(n.__class__ is int and 0 <= n <= 255 for n in numbers))

    def test_table_rows(self):
        self.assertEqual(numbers_of(tabled(4), 10), (27, 14, 22, 12, 0, 1, 2, 3))
        self.assertEqual(numbers_of(tabled(118), 134)[-1], 117)

    def test_no_room(self):
        for program in PROGRAMS:
            for base in (bases_of(program)[-1] + 1, 255, 256, -1):
                with self.assertRaises(NoRoom):
                    numbers_of(program, base)


class ReadNumbersTest(unittest.TestCase):
    def refused(self, thing, base, code):
        with self.assertRaises(NoNumbers) as caught:
            read_numbers(thing, base, code)
        self.assertIs(caught.exception.__class__, NoNumbers)

    def test_by_hand(self):
        self.assertEqual(read_numbers((22, 0), 0, 2), (("a", "go", "a"),))
        self.assertEqual(read_numbers((22, 254), 254, 2), (("a", "go", "a"),))
        self.assertEqual(read_numbers((0, 3, 28, 2, 21, 16, 24, 14, 22, 10), 10, 10),
                         (("a", "set", 3), ("", "door", 2), ("b", "wait", None), ("", "down", None),
                          ("", "ifn", "b"), ("", "go", "a")))

    def test_a_table_behind_the_code(self):
        # The same bytes are rows where they are ahead of code, table rows behind it.
        self.assertEqual(read_numbers((27, 6, 22, 3, 22, 22, 22), 1, 4),
                         (("", "at", "b"), ("a", "go", "a"), ("", "data", 22), ("b", "data", 22), ("", "data", 22)))
        self.assertEqual(read_numbers((22, 2, 22, 0), 0, 4), (("a", "go", "b"), ("b", "go", "a")))
        self.assertEqual(read_numbers((22, 0, 22, 0), 0, 2), (("a", "go", "a"), ("", "data", 22), ("", "data", 0)))

    def test_there_and_back(self):
        for program in PROGRAMS + (marked(120),):
            for base in bases_of(program):
                numbers = numbers_of(program, base)
                read = read_numbers(numbers, base, code_of(program))
                self.assertEqual(read, bare(program))
                self.assertIs(check(read), True)
                self.assertEqual(numbers_of(read, base), numbers)

    def test_names_of_marks(self):
        for count in (1, 2, 26, 27, 28, 52, 53, 60, 78, 79, 104, 105, 120):
            program = marked(count)
            read = read_numbers(numbers_of(program, 3), 3, 2 * count)
            self.assertEqual([row[0] for row in read], NAMES[:count])
            self.assertEqual([row[2] for row in read], NAMES[1:count] + ["a"])

    def test_marks_are_named_in_the_order_of_rows_not_of_values(self):
        program = (("x", "go", "z"), ("y", "go", "x"), ("z", "ifz", "w"), ("w", "go", "y"))
        self.assertEqual(read_numbers(numbers_of(program, 0), 0, 8),
                         (("a", "go", "c"), ("b", "go", "a"), ("c", "ifz", "d"), ("d", "go", "b")))

    def test_marks_that_no_value_names_are_gone(self):
        program = (("x", "rest", None), ("y", "go", "y"), ("z", "data", 1))
        self.assertEqual(read_numbers(numbers_of(program, 9), 9, 3),
                         (("", "rest", None), ("a", "go", "a"), ("", "data", 1)))

    def test_what_is_no_tuple_of_bytes(self):
        for thing in ([22, 0], "", "ab", None, 22, True, {}, {22: 0}, (22, None), (22, True), (22, False), (22, "0"),
                      (22, 256), (22, -1), (256, 0), (-1, 0), (22, (0,)), ((22, 0),), (22, [0]), (22, 10 ** 5000)):
            self.refused(thing, 0, 2)
        self.refused((22, 0, True), 0, 2)
        self.refused((22, 0, 256), 0, 2)
        self.refused((False, 1, 22, 0), 0, 4)

    def test_nothing(self):
        self.refused((), 0, 0)
        self.refused((22, 0), 0, 0)
        self.refused((0,), 0, 0)

    def test_code_is_more_than_the_bytes(self):
        self.refused((22, 0), 0, 3)
        self.refused((22, 0), 0, 1000)
        self.refused((), 0, 1)
        self.refused((22, 0), 0, -1)
        self.refused((), 0, -1)

    def test_a_row_that_goes_over_code(self):
        self.refused((22, 0), 0, 1)
        self.refused((22, 0, 22, 0), 0, 3)
        self.refused((22, 0, 22), 0, 3)
        self.refused((19, 22, 0), 0, 2)
        for number in range(30):
            if not 13 <= number <= 21:
                self.refused((22, 0, number, 0), 0, 3)

    def test_a_number_that_is_no_deeds(self):
        for number in (30, 31, 100, 255):
            self.refused((number, 22, 1), 0, 3)
            self.refused((22, 0, number), 0, 3)
            self.refused((number, 0, 22, 2), 0, 4)
            self.assertEqual(read_numbers((22, 0, number), 0, 2), (("a", "go", "a"), ("", "data", number)))

    def test_each_values_bounds(self):
        for number in range(30):
            greatest = 255 if number < 3 else 15 if number < 13 else {28: 19, 29: 5}.get(number)
            if greatest is None:
                continue
            for value in (0, greatest):
                read = read_numbers((number, value, 22, 2), 0, 4)
                self.assertEqual(read[0][2], value)
            for value in (greatest + 1, 255):
                if value > greatest:
                    with self.subTest(number=number, value=value):
                        self.refused((number, value, 22, 2), 0, 4)

    def test_a_value_that_leads_to_no_row(self):
        for number in (22, 23, 24, 25, 26):
            for value in (1, 3, 5, 6, 255):
                with self.subTest(number=number, value=value):
                    self.refused((number, value, 22, 2, 9), 0, 4)
            for value, row in ((0, 0), (2, 1)):
                read = read_numbers((number, value, 22, 2, 9), 0, 4)
                self.assertEqual(read[0][2], read[row][0])
        self.refused((22, 0), 1, 2)
        self.refused((22, 2), 1, 2)
        self.refused((22, 0), 255, 2)

    def test_a_value_that_leads_to_a_row_of_the_wrong_sort(self):
        for number in (22, 23, 24, 25, 26):
            self.refused((number, 4, 22, 2, 9), 0, 4)
        for value in (0, 2):
            self.refused((27, value, 22, 2, 9), 0, 4)
        self.refused((27, 5, 22, 2, 9), 0, 4)
        self.refused((27, 3, 22, 2, 9), 0, 4)
        self.assertEqual(read_numbers((27, 4, 22, 2, 9), 0, 4), (("", "at", "b"), ("a", "go", "a"), ("b", "data", 9)))

    def test_no_go_at_the_end_of_the_code(self):
        self.refused((19,), 0, 1)
        self.refused((22, 0, 19), 0, 3)
        self.refused((22, 0, 23, 0), 0, 4)
        self.refused((22, 0, 0, 22, 0), 0, 4)

    def test_how_many_rows(self):
        self.assertEqual(read_numbers((19,) * 119 + (22, 119), 0, 121), bare(rests(120)))
        self.refused((19,) * 120 + (22, 120), 0, 122)
        self.assertEqual(len(read_numbers((22, 5) + (0,) * 119, 5, 2)), 120)
        self.refused((22, 5) + (0,) * 120, 5, 2)
        self.refused((22, 5) + (0,) * 300, 5, 2)
        self.refused((22, 5) + (0,) * 20000, 5, 2)
        self.refused((19,) * 20000, 5, 20000)

    def test_no_room_comes_behind_all_that(self):
        self.assertEqual(len(read_numbers((22, 250, 1, 2, 3, 4), 250, 2)), 5)
        for numbers, base, code in (((22, 250, 1, 2, 3, 4, 5), 250, 2), ((22, 255), 255, 2), ((22, 254, 0), 254, 2)):
            with self.assertRaises(NoRoom):
                read_numbers(numbers, base, code)
        self.refused((22, 251, 1, 2, 3, 4, 5), 250, 2)
        self.refused((22, 250, 1, 2, 3, 4, 256), 250, 2)
        self.refused((22, 250, 1, 2, 3, 4, 5), 250, 8)
        self.refused((22, 250, 19, 2, 3, 4, 5), 250, 3)
        self.refused((22, 250) + (0,) * 120, 250, 2)
        self.refused((22, 0), 255, 2)
        for thing in (None, (), [22, 255]):
            self.refused(thing, 255, 2)

    def test_each_program_without_room(self):
        for program in (LEAST, tabled(118), (("a", "go", "a"),) + rests(60)):
            first = bases_of(program)[-1] + 1
            numbers = numbers_of(program, 0)
            spots = [k + 1 for k in range(code_of(program)) if numbers[k] in (22, 27)]
            moved = tuple(n + first if k in spots else n for k, n in enumerate(numbers))
            with self.assertRaises(NoRoom):
                read_numbers(moved, first, code_of(program))

    def test_anything(self):
        for k, thing in enumerate(anything()):
            for base in (0, 255):
                for code in (0, 1, 2, 4):
                    with self.subTest(k=k, base=base, code=code):
                        self.refused(thing, base, code)

    def test_anything_among_the_numbers(self):
        for k, thing in enumerate(anything()):
            if not (thing.__class__ is int and 0 <= thing <= 255):
                for at in (0, 1, 34, 35, 57, 59):
                    with self.subTest(k=k, at=at):
                        self.refused(with_item(EVERY_AT_0, at, thing), 0, 57)

    def test_what_is_handed_in_stays_as_it_was(self):
        for thing in anything():
            kept = copy.deepcopy(thing)
            self.refused(thing, 0, 2)
            self.assertEqual(thing, kept)


class BareTest(unittest.TestCase):
    def test_by_hand(self):
        names = {0: "a", 24: "b", 32: "c", 34: "d"}
        values = {22: "b", 23: "c", 24: "c", 25: "a", 26: "d", 31: "a", 32: "c"}
        told = tuple((names.get(row, ""), deed, values.get(row, value)) for row, (_, deed, value) in enumerate(EVERY))
        self.assertEqual(bare(EVERY), told)
        self.assertEqual(bare((("m", "go", "m"),)), (("a", "go", "a"),))
        self.assertEqual(bare((("a", "rest", None), ("b", "go", "b"), ("c", "data", 1))),
                         (("", "rest", None), ("a", "go", "a"), ("", "data", 1)))

    def test_more_marks_than_letters(self):
        self.assertEqual([row[0] for row in bare(marked(120))], NAMES[:120])

    def test_what_is_told_is_a_program_and_its_own_bare_one(self):
        for program in PROGRAMS:
            self.assertIs(check(bare(program)), True)
            self.assertEqual(bare(bare(program)), bare(program))

    def test_other_names_make_no_difference(self):
        for program in PROGRAMS:
            self.assertEqual(bare(renamed(program, lambda mark: mark[::-1] + "q")), bare(program))
            self.assertEqual(bare(renamed(program, lambda mark: "q" + mark)), bare(program))

    def test_a_mark_that_no_value_names_makes_no_difference(self):
        with_one = with_item(EVERY, 5, ("other", "add", 1))
        self.assertEqual(bare(with_one), bare(EVERY))

    def test_other_differences_do(self):
        for at, row in ((0, ("begin", "set", 254)), (1, ("", "setx", 0)), (13, ("", "twice", None)),
                        (22, ("", "ifz", "end")), (22, ("", "ifn", "near")), (31, ("", "go", "end")),
                        (35, ("", "data", 1))):
            with self.subTest(at=at, row=row):
                self.assertNotEqual(bare(with_item(EVERY, at, row)), bare(EVERY))
        one = (("a", "go", "b"), ("b", "go", "a"))
        self.assertNotEqual(bare(one), bare((("a", "go", "a"), ("b", "go", "b"))))
        self.assertEqual(bare(one), bare((("b", "go", "a"), ("a", "go", "b"))))
        self.assertNotEqual(bare(EVERY), bare(EVERY[:-1]))


if __name__ == "__main__":
    unittest.main()

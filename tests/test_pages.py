import unittest

from beamrows.errors import NoRoom
from beamrows.pages import address, page_signs
from tests.samples import EVERY, LEAST, LINES, PROGRAMS, bases_of, lengths_of, marked, rests, tabled


class AddressTest(unittest.TestCase):
    def test_by_hand(self):
        self.assertEqual([address(LINES, 0, row) for row in range(6)], [0, 2, 4, 5, 6, 8])
        self.assertEqual([address(LINES, 246, row) for row in range(6)], [246, 248, 250, 251, 252, 254])
        self.assertEqual([address(EVERY, 100, row) for row in (0, 1, 13, 14, 22, 23, 33, 34, 35)],
                         [100, 102, 126, 127, 135, 137, 157, 158, 159])

    def test_each_row_at_each_base(self):
        for program in PROGRAMS:
            lengths = lengths_of(program)
            for base in bases_of(program):
                for row in range(len(program)):
                    self.assertEqual(address(program, base, row), base + sum(lengths[:row]))

    def test_no_room(self):
        for program in PROGRAMS:
            last = bases_of(program)[-1]
            for row in (0, len(program) - 1):
                address(program, last, row)
                for base in (last + 1, 255, 256, -1):
                    with self.assertRaises(NoRoom):
                        address(program, base, row)

    def test_last_bases_by_hand(self):
        for program, last in ((LEAST, 254), (LINES, 246), (EVERY, 196), (rests(120), 135), (marked(120), 16),
                              (tabled(118), 134)):
            self.assertEqual(address(program, last, 0), last)
            with self.assertRaises(NoRoom):
                address(program, last + 1, 0)

    def test_numbers_somewhat_beyond_raise_no_error(self):
        self.assertEqual(address(LINES, 5, 6), 15)


class PageSignsTest(unittest.TestCase):
    def test_an_entry_for_each_row(self):
        for program in PROGRAMS:
            for base in bases_of(program):
                signs = page_signs(program, base)
                self.assertIs(signs.__class__, tuple)
                self.assertEqual(len(signs), len(program))
                for (_, deed, _), sign in zip(program, signs):
                    if deed in ("ifz", "ifn", "ifc", "ifd"):
                        self.assertIs(sign.__class__, int)
                    elif deed == "at":
                        self.assertIs(sign.__class__, tuple)
                        self.assertEqual(len(sign), 256)
                        self.assertEqual({entry.__class__ for entry in sign}, {int})
                    else:
                        self.assertIsNone(sign)

    def test_if_rows_towards_below(self):
        # The row behind stands at base + 2, the marked one at base + 3.
        for deed in ("ifz", "ifn", "ifc", "ifd"):
            program = (("", deed, "b"), ("", "rest", None), ("b", "go", "b"))
            for base in range(252):
                with self.subTest(deed=deed, base=base):
                    self.assertEqual(page_signs(program, base), (1 if base % 32 == 29 else 0, None, None))

    def test_if_rows_towards_above(self):
        # The marked row stands at base, the row behind the if-row at base + 3.
        for deed in ("ifz", "ifn", "ifc", "ifd"):
            program = (("a", "rest", None), ("", deed, "a"), ("", "go", "a"))
            for base in range(252):
                with self.subTest(deed=deed, base=base):
                    self.assertEqual(page_signs(program, base), (None, 1 if base % 32 in (29, 30, 31) else 0, None))

    def test_an_if_row_towards_the_row_behind(self):
        for base in range(253):
            self.assertEqual(page_signs((("", "ifz", "a"), ("a", "go", "a")), base), (0, None))

    def test_an_if_row_several_pages_away(self):
        program = (("", "ifc", "end"),) + rests(100)
        self.assertEqual(page_signs(program, 0)[0], 1)
        self.assertEqual(page_signs(program, 32)[0], 1)

    def test_at(self):
        # The marked row stands at base + 5.
        program = (("", "at", "t"), ("a", "go", "a"), ("", "data", 1), ("t", "data", 2))
        for base in range(251):
            first = 32 - (base + 5) % 32
            with self.subTest(base=base):
                self.assertEqual(page_signs(program, base), ((0,) * first + (1,) * (256 - first), None, None, None))

    def test_at_with_its_table_at_a_pages_begin_and_end(self):
        program = (("", "at", "t"), ("a", "go", "a"), ("t", "data", 2))
        self.assertEqual(page_signs(program, 28)[0], (0,) * 32 + (1,) * 224)
        self.assertEqual(page_signs(program, 27)[0], (0,) + (1,) * 255)
        self.assertEqual(page_signs(program, 251)[0], (0,) + (1,) * 255)

    def test_every_deed_by_hand(self):
        # At base 0: near stands at 39, end at 55; the rows behind the if-rows at 37, 39, 41, 43.
        signs = page_signs(EVERY, 0)
        self.assertEqual([signs[row] for row in (22, 23, 24, 25)], [0, 0, 0, 1])
        # At base 9: near at 48, end at 64; the rows behind at 46, 48, 50, 52; the table at 67.
        signs = page_signs(EVERY, 9)
        self.assertEqual([signs[row] for row in (22, 23, 24, 25)], [0, 1, 1, 1])
        self.assertEqual(signs[26], (0,) * 29 + (1,) * 227)

    def test_no_room(self):
        for program in PROGRAMS:
            for base in (bases_of(program)[-1] + 1, 255, 256, -1):
                with self.assertRaises(NoRoom):
                    page_signs(program, base)


if __name__ == "__main__":
    unittest.main()

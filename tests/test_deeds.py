import unittest

from beamrows.deeds import beat_count, byte_count, kind, number_of

# The table of point 4, its rows as they stand there.
TABLE = """
byte 2: set (2), test (2), setx (2)
memory 2: get (3), put (3), add (3), sub (3), mask (3), flip (3), getx (3), putx (3), lay (4), take (4)
plain 1: half (2), twice (2), up (2), down (2), tox (2), toa (2), rest (2), idle (3), wait (2)
mark 2: go (3), ifz (2), ifn (2), ifc (2), ifd (2), at (4)
door 2: door (3)
eye 2: eye (3)
table 1: data (0)
"""


def told():
    """The table as a list of (deed, kind, bytes, beats)."""
    rows = []
    for line in TABLE.strip().split("\n"):
        head, tail = line.split(": ")
        sort, long = head.split(" ")
        for part in tail.split(", "):
            deed, beats = part[:-1].split(" (")
            rows.append((deed, sort, int(long), int(beats)))
    return rows


class DeedsTest(unittest.TestCase):
    def test_all_deeds_are_as_the_table_tells(self):
        rows = told()
        self.assertEqual(len(rows), 31)
        for number, (deed, sort, long, beats) in enumerate(rows):
            with self.subTest(deed):
                self.assertEqual(kind(deed), sort)
                self.assertEqual(byte_count(deed), long)
                self.assertEqual(beat_count(deed), beats)
                self.assertEqual(number_of(deed), number)

    def test_some_numbers_by_hand(self):
        self.assertEqual([number_of(deed) for deed in ("set", "get", "half", "go", "at", "door", "eye", "data")],
                         [0, 3, 13, 22, 27, 28, 29, 30])


if __name__ == "__main__":
    unittest.main()

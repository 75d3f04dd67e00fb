import copy
import random
import unittest

from beamrows.cells import right_times
from beamrows.errors import NoRoom
from beamrows.whole import right_frames
from tests.chance import chance_base, chance_frames
from tests.papers import counts, entries_of, least_cells, line_count, lines_paper
from tests.samples import (EITHER, EVERY, EYES, GROUND, LEAST, LOOPS, PROGRAMS, WAITS, WHOLE, anything, by_x,
                           lengths_of, straight, with_item)

FIRST = (0, 0, 1, 0, 0)


def least_paper(program, base=0):
    """The least entries by the second writing."""
    return lines_paper(program, entries_of(program, base))


def put(paper, row, entries):
    """The paper with other entries for a row."""
    return with_item(paper, row, tuple(entries))


def widened(paper):
    """The paper with each entry told of any x."""
    return tuple(tuple(sorted({(0, 255, 0) + entry[3:] for entry in entries})) for entries in paper)


def spots(paper):
    """The row and the place of each entry."""
    return [(row, at) for row, entries in enumerate(paper) for at in range(len(entries))]


def put_entry(paper, row, at, entry):
    """The paper with another entry for one, as it comes to stand in order."""
    return put(paper, row, sorted(set(with_item(paper[row], at, entry))))


class WholeCase(unittest.TestCase):
    def says(self, wanted, program, lines, thing, base=0, cells=None):
        cells = least_cells(program, base) if cells is None else cells
        self.assertIs(right_frames(program, base, cells, lines, thing), wanted)

    def judged(self, program, lines, paper, cells, base=0):
        """What is said of a paper that is one by its form, held against the second writing."""
        wanted = counts(program, base, lines, paper)
        self.says(wanted, program, lines, paper, base, cells)
        return wanted


class OrdinaryTest(WholeCase):
    def test_by_hand(self):
        paper = (((0, 0, 1, 0, 0),), ((0, 0, 0, 0, 0),), ((0, 0, 0, 0, 0),), ((0, 0, 0, 1, 0),), ((0, 0, 0, 0, 0),))
        paper = put(paper, 0, ((0, 0, 0, 0, 0), (0, 0, 1, 0, 0)))
        self.says(True, GROUND, 1, paper)
        self.assertEqual(least_paper(GROUND), paper)
        # Without what is said of the flag the first one is enough.
        self.says(True, GROUND, 1, put(paper, 0, ((0, 0, 0, 0, 0),)))
        self.says(False, GROUND, 1, put(paper, 0, ((0, 0, 1, 0, 0),)))
        for row in range(5):
            self.says(False, GROUND, 1, put(paper, row, ()))
        self.says(False, GROUND, 1, ((),) * 5)

    def test_two_lines_by_hand(self):
        program = straight(2)
        paper = ((FIRST,), (FIRST,), ((0, 0, 1, 0, 1),), ((0, 0, 1, 1, 1),), (FIRST,))
        self.says(True, program, 2, paper)
        for row in range(5):
            for asked in (0, 1):
                for line in (0, 1, 2, 38, 39):
                    bent = put(paper, row, ((0, 0, 1, asked, line),))
                    self.says(bent == paper, program, 2, bent)

    def test_counted_by_x_by_hand(self):
        program = by_x(3)
        paper = (
            ((0, 0, 1, 0, 0),),
            ((1, 1, 1, 0, 1), (2, 2, 1, 0, 0)),
            ((1, 1, 1, 0, 2), (2, 2, 1, 0, 1)),
            ((0, 0, 1, 0, 2), (1, 1, 1, 0, 1)),
            ((0, 0, 1, 0, 2),),
            ((0, 0, 1, 1, 2),),
            ((0, 0, 1, 0, 0),),
        )
        self.assertEqual(least_paper(program), paper)
        self.says(True, program, 3, paper)
        # The flag is what ends the loop: where it says nothing of x, x 0 would go on.
        self.says(False, program, 3, put(paper, 3, ((0, 0, 0, 0, 2), (1, 1, 1, 0, 1))))
        self.says(False, program, 3, put(paper, 3, ((0, 0, 1, 0, 2), (1, 1, 0, 0, 1))))
        # Wider in rows that do not ask for x.
        self.says(True, program, 3, put(paper, 0, ((0, 255, 0, 0, 0),)))
        self.says(False, program, 3, put(paper, 1, ((1, 1, 1, 0, 1), (2, 3, 1, 0, 0))))

    def test_whole_programs(self):
        for program, lines in WHOLE + tuple((straight(many), many) for many in (20, 39, 40)):
            for base in (0, 3, 150):
                paper, cells = least_paper(program, base), least_cells(program, base)
                for other in range(0, 43):
                    self.says(other == lines, program, other, paper, base, cells)

    def test_what_is_handed_in_stays_as_it_was(self):
        handed = [EYES, least_cells(EYES, 0), least_paper(EYES)]
        kept = copy.deepcopy(handed)
        self.assertIs(right_frames(handed[0], 0, handed[1], 2, handed[2]), True)
        self.assertIs(right_frames(handed[0], 0, handed[1], 2, handed[2]), True)
        self.assertEqual(handed, kept)

    def test_no_end_is_asked_for(self):
        # There is no such paper: the wait's line is one more each time.
        for lines in (1, 2, 39, 40, 41):
            paper = tuple(tuple((0, 0, 1, 0, line) for line in range(min(lines, 40))) for row in range(2))
            self.says(False, WAITS, lines, paper)
            self.says(False, WAITS, lines, put(paper, 0, paper[0][:-1]))
        self.assertIsNone(line_count(WAITS, entries_of(WAITS, 0)))

    def test_a_branch_that_makes_a_line_more(self):
        program = (("a", "eye", 0), ("", "ifz", "m"), ("", "wait", None), ("m", "door", 0), ("", "wait", None),
                   ("", "go", "a"))
        for lines in (1, 2, 3):
            self.says(False, program, lines, least_paper(program))

    def test_asked_with_the_wait_of_another_line(self):
        # In line 1 of three the end is asked for already.
        program = straight(3)
        paper = least_paper(program)
        early = with_item(program, 2, ("", "door", 0))
        self.says(False, early, 3, paper)
        self.says(True, early, 2, least_paper(early))
        self.says(False, early, 3, least_paper(early))


class LinesTest(WholeCase):
    # Row 4 is never come to, and leads to itself: any entries of it hold.
    PROGRAM = straight(1)[:-1] + (("", "go", "a"), ("never", "go", "never"), ("", "data", 0))
    ROW = 4

    def paper(self, entries):
        return put(least_paper(self.PROGRAM), self.ROW, entries)

    def test_the_bounds_of_entries(self):
        self.assertEqual(self.PROGRAM[self.ROW][0], "never")
        for entry in ((0, 0, 0, 0, 0), (255, 255, 1, 1, 39), (0, 255, 0, 1, 0), (3, 4, 1, 0, 38), (7, 7, 0, 0, 39)):
            self.says(True, self.PROGRAM, 1, self.paper([entry]))
        for entry in ((-1, 0, 0, 0, 0), (0, 256, 0, 0, 0), (256, 256, 0, 0, 0), (4, 3, 0, 0, 0), (0, 0, 2, 0, 0),
                      (0, 0, -1, 0, 0), (0, 0, 0, 2, 0), (0, 0, 0, -1, 0), (0, 0, 0, 0, 40), (0, 0, 0, 0, -1),
                      (0, 0, 0, 1, 40), (255, 0, 1, 0, 0), (0, 0, 0, 0, 10 ** 5000), (0, 0, 0, 0), (0, 0, 0, 0, 0, 0),
                      (), (0,), 0, None, "", "00000", [0, 0, 0, 0, 0], {0: 0}, (0, 0, 0, 0, "0"), (0, 0, 0, None, 0),
                      (0, 0, (), 0, 0), (0, [0], 0, 0, 0), ({}, 0, 0, 0, 0)):
            self.says(False, self.PROGRAM, 1, self.paper([entry]))

    def test_true_and_false_are_no_numbers(self):
        for at in range(5):
            for number in (0, 1):
                entry = with_item((0, 1, number, number, number), at, number)
                if entry[0] <= entry[1]:
                    self.says(True, self.PROGRAM, 1, self.paper([entry]))
                self.says(False, self.PROGRAM, 1, self.paper([with_item(entry, at, bool(number))]))
        # Where they would be equal to what is wanted.
        for row, at in spots(least_paper(EYES)):
            entry = least_paper(EYES)[row][at]
            for field in range(5):
                bent = with_item(entry, field, bool(entry[field]))
                if bent == entry:
                    self.says(False, EYES, 2, put(least_paper(EYES), row, with_item(least_paper(EYES)[row], at, bent)))

    def test_3000_and_3001_entries(self):
        paper = self.paper([])
        many = sum(len(entries) for entries in paper)
        free = [(low, high, 1, asked, line) for low in range(8) for high in range(low, 8) for asked in (0, 1)
                for line in range(40)]
        self.assertEqual(len(paper[self.ROW]), 0)
        more = [(low, 255, 0, asked, line) for low in range(3) for asked in (0, 1) for line in range(40)]
        for extra, wanted in ((2999 - many, True), (3000 - many, True), (3001 - many, False), (3002 - many, False)):
            entries = sorted((free + more)[:extra])
            self.assertEqual(len(set(entries)), extra)
            self.says(wanted, self.PROGRAM, 1, self.paper(entries))

    def test_a_table_row_has_none(self):
        paper = self.paper([])
        self.says(True, self.PROGRAM, 1, paper)
        self.says(False, self.PROGRAM, 1, put(paper, 5, [FIRST]))
        self.says(False, self.PROGRAM, 1, with_item(paper, 5, []))
        self.says(False, self.PROGRAM, 1, with_item(paper, 5, None))

    def test_line_39(self):
        program = straight(40)
        paper = least_paper(program)
        self.says(True, program, 40, paper)
        self.assertEqual(paper[40], ((0, 0, 1, 0, 39),))
        self.assertEqual(paper[41], ((0, 0, 1, 1, 39),))
        longer = straight(41)
        cells = least_cells(longer, 0)
        bent = (((0, 0, 1, 0, 0),),) + tuple(((0, 0, 1, 0, line),) for line in range(41)) + (
            ((0, 0, 1, 1, 40),), ((0, 0, 1, 0, 0),))
        self.assertEqual((len(bent), len(longer)), (44, 44))
        for lines in (40, 41, 42):
            self.says(False, longer, lines, bent, cells=cells)
            # Nor where line 40 is told as another one.
            self.says(False, longer, lines, put(put(bent, 41, [(0, 0, 1, 0, 39)]), 42, [(0, 0, 1, 1, 39)]), cells=cells)

    def test_a_wait_that_is_never_come_to(self):
        # What is told of it is held to the same as of others.
        program = straight(3)[:-1] + (("", "go", "a"), ("n", "wait", None), ("", "go", "n"))
        paper, cells = least_paper(program), least_cells(program, 0)
        row = 6
        self.assertEqual(program[row][0], "n")
        for asked in (0, 1):
            for line in range(40):
                # Asked for, it would be behind the wait in line 0, and would then never end.
                self.says(False, program, 3, put(paper, row, [(0, 0, 1, asked, line)]), cells=cells)
                self.judged(program, 3, put(put(paper, row, [(0, 0, 1, asked, line)]), row + 1, [FIRST]), cells)
        # Behind it there is no other wait.
        program = with_item(program, row + 1, ("stay", "go", "stay"))
        for asked in (0, 1):
            for line in range(40):
                bent = put(paper, row, [(0, 0, 1, asked, line)])
                bent = put(bent, row + 1, [(0, 0, 1, 0, 0 if asked else line + 1)])
                wanted = line == 2 if asked else line < 2
                self.says(wanted, program, 3, bent, cells=least_cells(program, 0))
        # With a go to the frame's begin it is well where its line is the last one.
        program = with_item(program, row + 1, ("", "go", "a"))
        for asked in (0, 1):
            for line in range(40):
                bent = put(put(paper, row, [(0, 0, 1, asked, line)]), row + 1, [FIRST])
                self.says((asked, line) == (1, 2), program, 3, bent, cells=least_cells(program, 0))


class BentTest(WholeCase):
    def each(self):
        for program, lines in WHOLE:
            yield program, lines, least_paper(program), least_cells(program, 0)

    def test_an_entry_left_out(self):
        lost = 0
        for program, lines, paper, cells in self.each():
            for row, at in spots(paper):
                bent = put(paper, row, paper[row][:at] + paper[row][at + 1:])
                lost += not self.judged(program, lines, bent, cells)
        self.assertGreater(lost, 60)

    def test_the_first_entry_left_out(self):
        # Nothing leads to row 0 of this one.
        paper = least_paper(EYES)
        self.assertEqual(paper[0], (FIRST,))
        self.says(False, EYES, 2, put(paper, 0, []))
        for entry in ((0, 0, 1, 0, 1), (0, 0, 1, 1, 0), (1, 1, 1, 0, 0), (1, 255, 0, 0, 0), (0, 0, 1, 0, 39)):
            self.says(False, EYES, 2, put(paper, 0, [entry]))
        self.says(True, EYES, 2, put(put(paper, 0, [(0, 0, 0, 0, 0)]), 1, [(0, 0, 0, 0, 0)]))
        # All else is told of any x: x 0 is left out in row 0 alone.
        wide = widened(paper)
        for entry, wanted in (((0, 255, 0, 0, 0), True), ((0, 0, 0, 0, 0), True), ((0, 0, 1, 0, 0), True),
                              ((1, 255, 0, 0, 0), False), ((1, 1, 0, 0, 0), False), ((0, 255, 0, 1, 0), False),
                              ((0, 255, 0, 0, 1), False)):
            self.says(wanted, EYES, 2, put(wide, 0, [entry]))

    def test_an_entry_moved(self):
        for program, lines, paper, cells in self.each():
            code = [row for row in range(len(program)) if program[row][1] != "data"]
            for row, at in spots(paper):
                left = put(paper, row, paper[row][:at] + paper[row][at + 1:])
                for other in code:
                    if other != row:
                        self.judged(program, lines, put(left, other, sorted({*left[other], paper[row][at]})), cells)

    def test_out_of_order_and_twice(self):
        for program, lines, paper, cells in self.each():
            self.says(True, program, lines, paper, cells=cells)
            for row, at in spots(paper):
                entries = paper[row]
                twice = put(paper, row, entries[:at] + entries[at:at + 1] + entries[at:])
                self.says(False, program, lines, twice, cells=cells)
                if len(entries) > 1:
                    self.says(False, program, lines, put(paper, row, entries[::-1]), cells=cells)
                    turned = list(entries)
                    turned[at - 1], turned[at] = turned[at], turned[at - 1]
                    self.says(False, program, lines, put(paper, row, turned), cells=cells)

    def test_lists_for_tuples(self):
        for program, lines, paper, cells in self.each():
            self.says(False, program, lines, list(paper), cells=cells)
            self.says(False, program, lines, dict(enumerate(paper)), cells=cells)
            for row, at in spots(paper):
                self.says(False, program, lines, with_item(paper, row, list(paper[row])), cells=cells)
                listed = with_item(paper[row], at, list(paper[row][at]))
                self.says(False, program, lines, with_item(paper, row, listed), cells=cells)

    def test_an_entry_of_another_kind(self):
        for program, lines, paper, cells in self.each():
            for row in range(len(program)):
                for wrong in (None, 0, True, "", FIRST, [], {}, (FIRST[:4],), (FIRST + (0,),), ((),), (None,)):
                    self.says(False, program, lines, with_item(paper, row, wrong), cells=cells)

    def test_rows_more_or_fewer(self):
        for program, lines, paper, cells in self.each():
            for wrong in (paper[:-1], paper[1:], paper + ((),), ((),) + paper, (), (paper,), paper * 2):
                self.says(False, program, lines, wrong, cells=cells)

    def test_other_fields(self):
        held = lost = 0
        for program, lines, paper, cells in self.each():
            for row, at in spots(paper):
                low, high, zero, asked, line = paper[row][at]
                for bent in ((low, high, 1 - zero, asked, line), (low, high, zero, 1 - asked, line),
                             (low, high, zero, asked, line + 1), (low, high, zero, asked, max(0, line - 1)),
                             (low, min(255, high + 1), zero, asked, line), (max(0, low - 1), high, zero, asked, line),
                             (min(255, low + 1), min(255, high + 1), zero, asked, line), (0, 255, zero, asked, line),
                             (0, 255, 0, asked, line), (low, high, 0, asked, line)):
                    if self.judged(program, lines, put_entry(paper, row, at, bent), cells):
                        held += 1
                    else:
                        lost += 1
        self.assertGreater(held, 50)
        self.assertGreater(lost, 500)

    def test_an_entry_more(self):
        chance = random.Random(32)
        held = lost = 0
        for program, lines, paper, cells in self.each():
            for row in range(len(program)):
                for k in range(20):
                    low = chance.choice((0, 0, 1, chance.randrange(256)))
                    high = chance.choice((low, low, 255))
                    entry = (low, high, chance.randrange(2), chance.randrange(2), chance.randrange(lines + 1))
                    if k % 2 and paper[row]:
                        entry = entry[:3] + chance.choice(paper[row])[3:]
                    if program[row][1] == "data":
                        self.says(False, program, lines, put(paper, row, [entry]), cells=cells)
                    elif self.judged(program, lines, put(paper, row, sorted({*paper[row], entry})), cells):
                        held += 1
                    else:
                        lost += 1
        self.assertGreater(held, 50)
        self.assertGreater(lost, 300)

    def test_wider_ones(self):
        # No row of these asks for x: each entry may be wider, all of them together.
        for program, lines in ((GROUND, 1), (EITHER, 1), (EYES, 2), (straight(3), 3), (straight(40), 40)):
            paper = least_paper(program)
            wide = widened(paper)
            self.says(True, program, lines, wide)
            both = tuple(tuple(sorted({*ours, *theirs})) for ours, theirs in zip(paper, wide))
            self.says(True, program, lines, both)
            for row in range(len(program)):
                # From any x to 0 alone: what comes of the one is not within the other.
                if paper[row]:
                    self.judged(program, lines, put(wide, row, paper[row]), least_cells(program, 0))
        for program, lines in ((LOOPS, 6), (by_x(5), 5)):
            self.says(False, program, lines, widened(least_paper(program)))

    def test_within_one_entry_and_not_two_together(self):
        program = (("", "getx", 0), ("a", "door", 0), ("", "wait", None), ("", "go", "a"))
        cells = ((FIRST,), ((0, 255, 0, 0, 20), (0, 255, 0, 3, 3)), ((0, 255, 0, 0, 30),), ((0, 255, 0, 0, 0),))
        self.assertIs(right_times(program, 0, cells), True)
        paper = ((FIRST,), ((0, 255, 1, 0, 0),), ((0, 255, 1, 1, 0),), ((0, 255, 1, 0, 0),))
        self.says(True, program, 1, paper, cells=cells)
        self.says(False, program, 1, put(paper, 1, ((0, 99, 1, 0, 0), (100, 255, 1, 0, 0))), cells=cells)
        self.says(False, program, 1, put(paper, 1, ((0, 254, 1, 0, 0), (1, 255, 1, 0, 0))), cells=cells)
        self.says(True, program, 1, put(paper, 1, ((0, 99, 1, 0, 0), (0, 255, 1, 0, 0))), cells=cells)
        self.says(False, program, 1, put(paper, 1, ((0, 255, 1, 0, 1),)), cells=cells)

    def test_by_chance(self):
        chance = random.Random(33)
        held = lost = 0
        for k in range(150):
            program = chance_frames(chance)
            base = chance_base(chance, program)
            found = entries_of(program, base, 200)
            cells = least_cells(program, base) if len(found) <= 200 else None
            if cells is None:
                continue
            paper, lines = lines_paper(program, found), line_count(program, found)
            for other in {lines or 1, (lines or 1) + 1, 40}:
                self.judged(program, other, paper, cells, base)
            for _ in range(6):
                row, at = chance.choice(spots(paper))
                entry = list(paper[row][at])
                entry[chance.randrange(5)] = chance.choice((0, 1, 0, 1, 2))
                if entry[0] <= entry[1] and max(entry[2:4]) < 2:
                    bent = put_entry(paper, row, at, tuple(entry))
                    with self.subTest(k):
                        if self.judged(program, lines or 1, bent, cells, base):
                            held += 1
                        else:
                            lost += 1
        self.assertGreater(held, 20)
        self.assertGreater(lost, 60)


class CellsTest(WholeCase):
    def test_cells_that_keep_in_time(self):
        # Wider ones, and ones with rows more.
        for cells in (
            (((0, 0, 1, 0, 3),), ((0, 0, 1, 0, 5),), ((0, 0, 1, 0, 8),), ((0, 0, 1, 0, 0),)),
            (((0, 255, 0, 0, 9),), ((0, 255, 0, 0, 15),), ((0, 255, 0, 3, 30),), ((0, 255, 0, 0, 6),)),
        ):
            self.assertIs(right_times(straight(1), 0, cells), True)
            self.says(True, straight(1), 1, least_paper(straight(1)), cells=cells)

    def test_cells_that_do_not(self):
        for program, lines in WHOLE:
            paper, cells = least_paper(program), least_cells(program, 0)
            self.says(True, program, lines, paper, cells=cells)
            for row, at in spots(cells):
                bent = put(cells, row, cells[row][:at] + cells[row][at + 1:])
                self.says(right_times(program, 0, bent), program, lines, paper, cells=bent)
                self.says(False, program, lines, paper, cells=with_item(cells, row, list(cells[row])))
                self.says(False, program, lines, paper, cells=put(cells, row, cells[row] + cells[row][at:at + 1]))
            self.says(False, program, lines, paper, cells=((),) * len(program))
            self.says(False, program, lines, paper, cells=list(cells))
            self.says(False, program, lines, paper, cells=paper[:-1])

    def test_a_late_program(self):
        # As to its lines it would be well.
        program = (("a", "rest", None),) + (("", "rest", None),) * 12 + straight(1)[1:]
        self.assertIsNone(least_cells(program, 0))
        paper = least_paper(program)
        self.assertIs(counts(program, 0, 1, paper), True)
        for cells in (((),) * len(program), paper, (((0, 0, 1, 0, 30),),) * len(program), None):
            self.assertIs(right_frames(program, 0, cells, 1, paper), False)
        shorter = program[:5] + program[6:]
        self.says(True, shorter, 1, least_paper(shorter))

    def test_anything(self):
        paper, cells = least_paper(EYES), least_cells(EYES, 0)
        for k, thing in enumerate(anything()):
            kept = copy.deepcopy(thing)
            with self.subTest(k):
                for lines in (1, 2, 40):
                    self.assertIs(right_frames(EYES, 0, thing, lines, paper), False)
                    self.assertIs(right_frames(EYES, 0, cells, lines, thing), False)
                    self.assertIs(right_frames(EYES, 0, thing, lines, thing), False)
                for program in (LEAST, EVERY, GROUND):
                    self.assertIs(right_frames(program, 0, thing, 1, thing), False)
                for row in (0, 1, 12):
                    self.assertIs(right_frames(EYES, 0, with_item(cells, row, thing), 2, paper), False)
                    self.assertIs(right_frames(EYES, 0, cells, 2, with_item(paper, row, thing)), False)
                    self.assertIs(right_frames(EYES, 0, cells, 2, with_item(paper, row, (thing,))), False)
                for field in range(5):
                    entry = with_item(FIRST, field, thing)
                    self.assertIs(right_frames(EYES, 0, cells, 2, with_item(paper, 0, (entry,))), False)
                self.assertEqual(thing, kept)

    def test_no_room_ahead_of_all(self):
        for program in PROGRAMS + tuple(program for program, lines in WHOLE):
            last = 256 - sum(lengths_of(program))
            for base in {last + 1, 255} - {last}:
                for cells in (None, ((),) * len(program), 5):
                    for thing in (None, ((),) * len(program), []):
                        for lines in (0, 1, 41):
                            with self.assertRaises(NoRoom):
                                right_frames(program, base, cells, lines, thing)
            self.assertIs(right_frames(program, last, None, 1, None), False)
        for program, lines in WHOLE:
            paper, cells = least_paper(program), least_cells(program, 0)
            with self.assertRaises(NoRoom):
                right_frames(program, 257 - sum(lengths_of(program)), cells, lines, paper)


if __name__ == "__main__":
    unittest.main()

import copy
import random
import unittest

from beamrows.errors import NoRoom
from beamrows.spans import right_high, right_low
from tests.chance import chance_base, chance_game, chance_program
from tests.papers import all_ways, beats_between, free_of, is_priced, paper_of
from tests.samples import BRANCH, EVERY, LEAST, LOOP, PROGRAMS, SELF, anything, lengths_of, with_item

LOW = (9, (0, 1, 4, 5), (0, 3, 5, 8, 6, 9, None, None, (), None, None, None, None))
HIGH = (13, (0, 1, 2, 3, 4, 5), (0, 3, 5, 8, 10, 13, None, None, (), None, None, None, None))


class SpanCase(unittest.TestCase):
    def low(self, wanted, thing, program=BRANCH, ends=(0, 5), base=0):
        self.assertIs(right_low(program, base, *ends, thing), wanted)

    def high(self, wanted, thing, program=BRANCH, ends=(0, 5), base=0):
        self.assertIs(right_high(program, base, *ends, thing), wanted)

    def most(self, wanted, paper, program=BRANCH, ends=(0, 5), base=0):
        self.high(wanted, ("most",) + paper, program, ends, base)


class PaperTest(SpanCase):
    def priced(self, paper, row, price):
        """The paper with another price for a row."""
        return paper[:2] + (with_item(paper[2], row, price),)

    def test_by_hand(self):
        self.low(True, LOW)
        self.most(True, HIGH)
        self.low(False, HIGH)
        self.most(False, LOW)
        self.low(False, ("most",) + HIGH)
        self.high(False, HIGH)
        self.high(False, ("most",) + LOW)
        self.assertEqual(paper_of(BRANCH, 0, 0, 5, 0), LOW)
        self.assertEqual(paper_of(BRANCH, 0, 0, 5, 1), HIGH)

    def test_short_ways(self):
        for one, other, beats in ((0, 1, 3), (2, 3, 3), (4, 5, 3), (7, 0, 3), (10, 0, 3)):
            for which in (0, 1):
                paper = paper_of(BRANCH, 0, one, other, which)
                self.assertEqual(paper[:2], (beats, (one, other)))
                (self.most if which else self.low)(True, paper, ends=(one, other))

    def test_beats(self):
        for wrong in (0, -9, 8, 10, 10 ** 5000, True, False, None, "9", (), (9,), [9], {}):
            self.low(False, (wrong,) + LOW[1:])
            self.low(False, (wrong, LOW[1], with_item(LOW[2], 5, wrong)))
            self.most(False, (wrong,) + HIGH[1:])
            self.most(False, (wrong, HIGH[1], with_item(HIGH[2], 5, wrong)))
        for wrong in (12, 14):
            self.most(False, (wrong, HIGH[1], with_item(HIGH[2], 5, wrong)))

    def test_a_way_with_other_beats(self):
        # Both are ways, but one of them has not the least beats, the other one not the most.
        self.low(False, (13, HIGH[1], LOW[2]))
        self.low(False, (13, HIGH[1], with_item(LOW[2], 5, 13)))
        self.low(False, (9, HIGH[1], LOW[2]))
        self.most(False, (9, LOW[1], HIGH[2]))
        self.most(False, (9, LOW[1], with_item(HIGH[2], 5, 9)))

    def test_ways(self):
        bent = ((), (0,), (5,), (0, 5), (0, 1, 5), (0, 1, 4), (1, 4, 5), (0, 1, 4, 4, 5), (0, 1, 3, 4, 5), (5, 4, 1, 0),
                (0, 1, 4, 5, 5), (0, 1, 4, 5, 6), (7, 0, 1, 4, 5), (0, 1, 4, 5, 6, 7, 0, 1, 4, 5), (0, 1, 4, -8),
                (0, 1, 4, 13), [0, 1, 4, 5], {0: 0, 1: 1, 2: 4, 3: 5}, None, 0, "", ((0, 1, 4, 5),), (0, True, 4, 5),
                (False, 1, 4, 5), (0, 1, "4", 5), (0, 1, None, 5), (0, (1,), 4, 5), (0, [1], 4, 5), (0, {}, 4, 5),
                (0, 1, 4, 5, 10 ** 5000))
        for k, wrong in enumerate(bent):
            with self.subTest(k):
                self.low(False, (9, wrong, LOW[2]))
                self.most(False, (13, wrong, HIGH[2]))
                self.high(False, ("round", wrong, (1, 2, 3, 1)))

    def test_a_wait_or_other_in_between(self):
        program = (("a", "rest", None), ("", "ifz", "b"), ("", "wait", None), ("b", "rest", None), ("", "go", "a"))
        low = (5, (0, 1, 3), (0, 2, None, 5, None))
        self.low(True, low, program, (0, 3))
        self.low(False, (6, (0, 1, 2, 3), (0, 2, None, 6, None)), program, (0, 3))
        self.low(False, (6, (0, 1, 2, 3), (0, 2, 4, 6, None)), program, (0, 3))
        # Row 3 is come to again from itself by the go.
        again = (5 + 2 + 3 + 5, (0, 1, 3, 4, 0, 1, 3), (0, 2, None, 15, None))
        self.low(False, again, program, (0, 3))
        self.high(True, ("most", 5, (0, 1, 3), (0, 2, None, 5, None)), program, (0, 3))
        self.most(False, again, program, (0, 3))

    def test_row_one_in_between(self):
        # Over row one again: a way all the same, but with more than the least beats.
        way = (0, 0, 1)
        self.low(True, (2, (0, 1), (0, 2, None)), SELF, (0, 1))
        self.low(False, (5, way, (0, 5, None)), SELF, (0, 1))
        self.high(True, ("round", way, (0, 0)), SELF, (0, 1))

    def test_each_price(self):
        for row in range(13):
            for price in (-1, 0, 1, 2, 3, 4, 5, 6, 7, 8, 9, 10, 11, 12, 13, 14, 100, -100, None, ()):
                for which, paper, check in ((0, LOW, self.low), (1, HIGH, self.most)):
                    bent = self.priced(paper, row, price)
                    with self.subTest(row=row, price=price, which=which):
                        check(is_priced(BRANCH, 0, 0, 5, which, bent), bent)

    def test_prices_by_hand(self):
        # A lower price wants lower ones behind it, in a low paper; a higher one higher ones, in a high paper.
        self.low(False, self.priced(LOW, 1, 2))
        self.low(False, self.priced(LOW, 1, 4))
        self.low(True, self.priced(LOW, 3, 7))
        self.low(True, self.priced(LOW, 3, 4))
        self.low(False, self.priced(LOW, 3, 3))
        self.low(False, self.priced(LOW, 3, 9))
        self.most(True, self.priced(HIGH, 3, 8))
        self.most(False, self.priced(HIGH, 3, 7))
        self.most(False, self.priced(HIGH, 3, 9))
        self.most(False, self.priced(HIGH, 2, 6))

    def test_rows_from_which_other_is_never_come_to(self):
        # Row 8 may have a price, too; a row with () leads to such alone.
        for price in (11, 10, 0, -5):
            self.low(True, self.priced(LOW, 8, price))
        self.low(False, self.priced(LOW, 8, 12))
        self.low(False, self.priced(LOW, 8, None))
        for price in (11, 12, 1000):
            self.most(True, self.priced(HIGH, 8, price))
        self.most(False, self.priced(HIGH, 8, 10))
        self.most(False, self.priced(HIGH, 8, None))
        for paper, check in ((LOW, self.low), (HIGH, self.most)):
            for row in (1, 2, 3, 4):
                check(False, self.priced(paper, row, ()))
            check(False, self.priced(paper, 0, ()))
            check(False, self.priced(paper, 5, ()))

    def test_rows_that_are_never_come_to(self):
        # Row 11 leads to itself: with a price it would have to be no higher, or no lower, than itself and 3.
        self.low(True, self.priced(LOW, 11, 7))
        self.most(False, self.priced(HIGH, 11, 7))
        for paper, check in ((LOW, self.low), (HIGH, self.most)):
            check(True, self.priced(paper, 11, ()))
            for price in (7, (), None):
                check(True, self.priced(paper, 12, price))
            for row in range(6):
                check(False, self.priced(paper, row, None))

    def test_prices_of_waits(self):
        for paper, check in ((LOW, self.low), (HIGH, self.most)):
            # Row 9 is a next row of row 8, and row 6 of row 5; but a wait may have any price that its next rows bear.
            check(True, self.priced(paper, 9, None))
            check(False, self.priced(paper, 9, 4))
            check(False, self.priced(paper, 9, ()))
        # A wait with a price: the row behind has one too, and leads to row 0 with its price 0.
        low = self.priced(self.priced(LOW, 9, 4), 10, 6)
        self.low(True, low)
        self.low(True, self.priced(low, 10, -3))
        self.low(False, self.priced(low, 10, -4))
        self.low(False, self.priced(low, 10, 7))
        self.low(False, self.priced(low, 10, None))
        self.low(False, self.priced(low, 10, ()))
        high = self.priced(self.priced(HIGH, 9, -5), 10, -3)
        self.most(True, high)
        self.most(False, self.priced(high, 10, -4))
        self.most(False, self.priced(high, 10, -2))
        self.most(False, self.priced(high, 10, None))
        # Behind row other nothing is asked of prices.
        self.low(True, self.priced(LOW, 6, None))
        self.low(True, self.priced(self.priced(LOW, 6, 100), 7, 102))
        self.low(False, self.priced(self.priced(LOW, 6, 100), 7, 103))

    def test_a_wait_with_a_price_that_leads_to_none(self):
        program = (("a", "rest", None), ("", "rest", None), ("", "go", "a"), ("", "wait", None), ("x", "go", "x"))
        for which, check in ((0, self.low), (1, self.most)):
            for wait, price in ((None, None), ((), ()), (None, ()), (4, ())):
                check(True, (2, (0, 1), (0, 2, None, wait, price)), program, (0, 1))
            check(False, (2, (0, 1), (0, 2, None, (), None)), program, (0, 1))
            check(False, (2, (0, 1), (0, 2, None, (), 4)), program, (0, 1))
            check(False, (2, (0, 1), (0, 2, None, 4, None)), program, (0, 1))

    def test_kinds_of_prices(self):
        for row in range(13):
            for wrong in (True, False, "", "3", (3,), ((),), [], [3], {}, {3: 3}):
                self.low(False, self.priced(LOW, row, wrong))
                self.most(False, self.priced(HIGH, row, wrong))
        for which, paper, check in ((0, LOW, self.low), (1, HIGH, self.most)):
            for wrong in (paper[2][:-1], paper[2] + (None,), paper[2][1:], (), None, list(paper[2]), 0, "",
                          dict(enumerate(paper[2])), (paper[2],)):
                check(False, paper[:2] + (wrong,))

    def test_a_field_more_or_fewer(self):
        for paper, check in ((LOW, self.low), (HIGH, self.most)):
            check(False, paper + (None,))
            check(False, paper + ((),))
            check(False, ((),) + paper)
            for at in range(3):
                check(False, paper[:at] + paper[at + 1:])
        self.low(False, list(LOW))
        self.high(False, ["most", *HIGH])
        self.high(False, {"most": HIGH})
        for word in ("Most", "most ", "", "least", "round", None, 0, (), ["most"], ("most",), {}, True):
            self.high(False, (word,) + HIGH)

    def test_the_page_sign(self):
        # The row behind row 1 is at base + 4, its mark at base + 7: at base 25 they are on unlike pages.
        for base, more in ((0, 0), (24, 0), (25, 1), (27, 1), (28, 0)):
            low = (9 + more, LOW[1], with_item(with_item(LOW[2], 4, 6 + more), 5, 9 + more))
            self.low(True, low, base=base)
            self.low(more == 0, LOW, base=base)
            self.most(True, HIGH, base=base)

    def test_the_beats_of_at(self):
        program = (("a", "rest", None), ("", "at", "t"), ("", "rest", None), ("", "go", "a"), ("t", "data", 0))
        # At base 25 the table row is the last of its page: with x 0 alone no other page is led to.
        for base in (0, 24, 25, 26, 200):
            self.low(True, (6, (0, 1, 2), (0, 2, 6, None, None)), program, (0, 2), base)
            self.low(False, (7, (0, 1, 2), (0, 2, 7, None, None)), program, (0, 2), base)
            self.most(True, (7, (0, 1, 2), (0, 2, 7, None, None)), program, (0, 2), base)
            self.most(False, (6, (0, 1, 2), (0, 2, 6, None, None)), program, (0, 2), base)

    def test_an_if_row_whose_mark_is_the_row_behind(self):
        program = (("a", "rest", None), ("", "ifd", "b"), ("b", "rest", None), ("", "go", "a"))
        self.low(True, (4, (0, 1, 2), (0, 2, 4, None)), program, (0, 2))
        self.low(False, (5, (0, 1, 2), (0, 2, 5, None)), program, (0, 2))
        self.most(True, (5, (0, 1, 2), (0, 2, 5, None)), program, (0, 2))
        self.most(False, (4, (0, 1, 2), (0, 2, 4, None)), program, (0, 2))

    def test_long_ways(self):
        program = (("a", "rest", None),) + (("", "rest", None),) * 118 + (("", "go", "a"),)
        for last in (1, 60, 119):
            prices = tuple(2 * row if row <= last else None for row in range(120))
            self.low(True, (2 * last, tuple(range(last + 1)), prices), program, (0, last))
            self.most(True, (2 * last, tuple(range(last + 1)), prices), program, (0, last))


class RoundTest(SpanCase):
    WAY = (0, 1, 2, 3, 4)

    def round(self, wanted, way, turn, program=LOOP, ends=(0, 4), base=0):
        self.high(wanted, ("round", way, turn), program, ends, base)

    def test_begun_at_each_of_its_rows(self):
        for turn in ((1, 2, 3, 1), (2, 3, 1, 2), (3, 1, 2, 3), (1, 2, 3, 1, 2, 3, 1)):
            self.round(True, self.WAY, turn)
            self.round(True, (0, 1, 2, 3, 1, 2, 3, 4), turn)
        # No most beats, and no paper of them.
        self.assertIsNone(paper_of(LOOP, 0, 0, 4, 1))

    def test_bent_ways(self):
        for wrong in ((0, 1), (0, 1, 2, 3), (1, 2, 3, 4), (0, 1, 2, 3, 4, 5), (0, 1, 3, 4), (0, 2, 3, 4), (1, 2, 3, 1)):
            self.round(False, wrong, (1, 2, 3, 1))
        # Over a wait, or over other.
        program = (("a", "ifz", "a"), ("", "wait", None), ("", "rest", None), ("", "rest", None), ("", "go", "a"))
        self.round(False, (0, 1, 2), (0, 0), program, (0, 2))
        self.round(False, (0, 1, 2, 3), (0, 0), program, (0, 3))
        free = with_item(program, 1, ("", "rest", None))
        self.round(True, (0, 1, 2), (0, 0), free, (0, 2))
        program = (("a", "ifz", "a"), ("b", "ifz", "b"), ("", "go", "a"))
        self.round(True, (0, 0, 1), (0, 0), program, (0, 1))
        self.round(False, (0, 1, 1), (0, 0), program, (0, 1))

    def test_bent_rounds(self):
        for wrong in ((), (1,), (1, 1), (1, 2), (1, 2, 3), (1, 2, 3, 2), (1, 3, 1), (2, 3, 1), (3, 2, 1, 3), (0, 0),
                      (0, 1, 2, 3, 0), (4, 4), (1, 2, 3, 4, 1), (5, 5), (1, 2, 3, 1, 2), (1, 2, 3, 8), (-6, 2, 3, -6),
                      [1, 2, 3, 1], {0: 1}, None, 0, "", "1231", ((1, 2, 3, 1),), (True, 2, 3, True), (1, 2, 3, True),
                      (True, 2, 3, 1), (1, None, 3, 1), (1, (2,), 3, 1), (1, [2], 3, 1), ("1", 2, 3, "1"),
                      (1, 2, 10 ** 5000, 1)):
            self.round(False, self.WAY, wrong)

    def test_the_round_is_on_the_way(self):
        # Rows 4 and 5 go round, but no way from row 0 to row 2 is over them.
        program = (("a", "rest", None), ("", "ifz", "c"), ("b", "rest", None), ("", "go", "a"), ("c", "rest", None),
                   ("", "go", "c"))
        self.round(False, (0, 1, 2), (4, 5, 4), program, (0, 2))
        self.round(False, (0, 1, 2), (5, 4, 5), program, (0, 2))
        # Such a round is no hindrance to a paper of the most beats.
        self.most(True, (4, (0, 1, 2), (0, 2, 4, None, (), ())), program, (0, 2))
        # On a way to one of its rows the round is over other.
        self.round(False, (0, 1, 4, 5), (4, 5, 4), program, (0, 5))

    def test_other_is_not_in_the_round(self):
        # Seen from row 0 to row 2 the round of rows 1 to 3 is over other.
        for turn in ((1, 2, 3, 1), (2, 3, 1, 2), (3, 1, 2, 3)):
            self.round(False, (0, 1, 2), turn, ends=(0, 2))
        paper = (4, (0, 1, 2), (0, 2, 4, None, None, None, None))
        self.low(True, paper, LOOP, (0, 2))
        self.most(True, paper, LOOP, (0, 2))

    def test_no_wait_in_the_round(self):
        program = (("a", "rest", None), ("b", "ifz", "c"), ("", "wait", None), ("", "go", "b"), ("c", "rest", None),
                   ("", "go", "a"))
        self.round(False, (0, 1, 4), (1, 2, 3, 1), program, (0, 4))
        free = with_item(program, 2, ("", "rest", None))
        self.round(True, (0, 1, 4), (1, 2, 3, 1), free, (0, 4))
        # Begun at a row that is on the round but not on the way, it is none.
        self.round(False, (0, 1, 4), (2, 3, 1, 2), free, (0, 4))
        self.round(True, (0, 1, 2, 3, 1, 4), (2, 3, 1, 2), free, (0, 4))

    def test_lengths(self):
        for many, wanted in ((2, True), (3, True), (199, True), (200, True), (201, False), (202, False), (400, False)):
            self.round(wanted, (0,) * (many - 1) + (1,), (0, 0), SELF, (0, 1))
            self.round(wanted, (0, 1), (0,) * many, SELF, (0, 1))
        self.round(False, (0, 1), (0,), SELF, (0, 1))
        for many, wanted in ((66, True), (67, False)):
            # The loop's three rows again and again: 199 and 202 numbers, and a way with two more.
            turn = (1, 2, 3) * many + (1,)
            self.assertEqual(len(turn), 3 * many + 1)
            self.round(wanted, self.WAY, turn)
        self.round(True, (0,) + (1, 2, 3) * 66 + (4,), (1, 2, 3, 1))
        self.round(False, (0,) + (1, 2, 3) * 67 + (4,), (1, 2, 3, 1))

    def test_a_field_more_or_fewer(self):
        good = ("round", self.WAY, (1, 2, 3, 1))
        self.high(True, good, LOOP, (0, 4))
        for bent in (good + ((),), good[:2], good[1:], list(good), ("most",) + good[1:], ("Round",) + good[1:],
                     (None,) + good[1:], ("round", good[2], good[1]), ("round", 0) + good[1:], (good,)):
            self.high(False, bent, LOOP, (0, 4))
        self.low(False, good, LOOP, (0, 4))
        self.low(False, (0,) + good[1:], LOOP, (0, 4))


class EndsTest(SpanCase):
    def test_rows_that_are_no_ends(self):
        low, turn = paper_of(LOOP, 0, 0, 4, 0), ("round", (0, 1, 2, 3, 4), (1, 2, 3, 1))
        self.low(True, low, LOOP, (0, 4))
        self.high(True, turn, LOOP, (0, 4))
        # Row 5 is a wait; 7 and more are none.
        for ends in ((4, 4), (0, 0), (0, 5), (5, 4), (5, 5), (5, 0), (0, 7), (-7, 4), (0, -3), (7, 4), (100, 4)):
            for thing in (low, turn, ("most",) + low, (0, (0, 0), (0,) * 7), (2, (5, 6), (None,) * 5 + (0, 2)),
                          (0, (), (0,) * 7), None, ()):
                self.low(False, thing, LOOP, ends)
                self.high(False, thing, LOOP, ends)

    def test_from_and_to_a_wait(self):
        to_wait = (2, (4, 5), (None,) * 4 + (0, 2, None))
        from_wait = (2, (5, 6), (None,) * 5 + (0, 2))
        for paper, ends in ((to_wait, (4, 5)), (from_wait, (5, 6))):
            self.low(False, paper, LOOP, ends)
            self.most(False, paper, LOOP, ends)
            # With a rest for the wait it is a way like others.
            program = with_item(LOOP, 5, ("", "rest", None))
            self.low(True, paper_of(program, 0, *ends, 0), program, ends)

    def test_to_a_table_row(self):
        for ends in ((0, 12), (12, 0), (11, 12)):
            for thing in (LOW, HIGH, (3, ends, (0,) * 13)):
                self.low(False, thing, BRANCH, ends)
                self.high(False, thing, BRANCH, ends)
                self.high(False, ("most",) + thing, BRANCH, ends)

    def test_one_is_other(self):
        for thing in ((3, (0, 0), (0,)), (0, (0,), (0,)), (0, (), (0,)), ("most", 3, (0, 0), (3,)),
                      ("round", (0, 0), (0, 0)), ("round", (0,), (0, 0))):
            self.low(False, thing, LEAST, (0, 0))
            self.high(False, thing, LEAST, (0, 0))
        # From row 0 round to row 0, and a round by row 1 on it.
        program = (("a", "rest", None), ("b", "ifz", "b"), ("", "go", "a"))
        self.high(False, ("round", (0, 1, 2, 0), (1, 1)), program, (0, 0))
        self.high(True, ("round", (0, 1, 2), (1, 1)), program, (0, 2))

    def test_no_room_ahead_of_all(self):
        for program in PROGRAMS + (BRANCH, LOOP, SELF):
            last = 256 - sum(lengths_of(program))
            for base in {last + 1, 255} - {last}:
                for ends in ((0, 1), (0, 0)):
                    for thing in (None, LOW, ("most",) + HIGH):
                        with self.assertRaises(NoRoom):
                            right_low(program, base, *ends, thing)
                        with self.assertRaises(NoRoom):
                            right_high(program, base, *ends, thing)
            self.low(False, None, program, (0, 0), last)
            self.high(False, None, program, (0, 0), last)


class AnythingTest(SpanCase):
    def test_anything(self):
        for k, thing in enumerate(anything()):
            with self.subTest(k):
                kept = copy.deepcopy(thing)
                for program in (BRANCH, LOOP, EVERY):
                    self.low(False, thing, program, (0, 4))
                    self.high(False, thing, program, (0, 4))
                for at in range(3):
                    self.low(False, with_item(LOW, at, thing))
                    self.most(False, with_item(HIGH, at, thing))
                    self.high(False, with_item(("round", (0, 1, 2, 3, 4), (1, 2, 3, 1)), at, thing), LOOP, (0, 4))
                for at in range(4):
                    self.low(False, (9, with_item(LOW[1], at, thing), LOW[2]))
                    self.high(False, ("round", (0, 1, 2, 3, 4), with_item((1, 2, 3, 1), at, thing)), LOOP, (0, 4))
                for row in range(13):
                    bent = LOW[:2] + (with_item(LOW[2], row, thing),)
                    fits = thing is None or thing == () or thing.__class__ is int
                    self.low(fits and is_priced(BRANCH, 0, 0, 5, 0, bent), bent)
                self.assertEqual(thing, kept)


class ChanceTest(SpanCase):
    def ends(self, chance, program):
        """Two unlike rows that are neither waits nor table rows, or None."""
        rows = [row for row in range(len(program)) if program[row][1] not in ("wait", "data")]
        return tuple(chance.sample(rows, 2)) if len(rows) > 1 else None

    def bent(self, chance, paper):
        """The paper with another price, or with other beats for other."""
        total, way, prices = paper
        row = chance.randrange(len(prices))
        old = prices[row] if isinstance(prices[row], int) else 0
        price = chance.choice((None, (), old - 1, old + 1, old - 5, old + 5))
        return (total, way, with_item(prices, row, price))

    def test_papers(self):
        chance = random.Random(30)
        counts = {"low": 0, "most": 0, "round": 0, "bent": 0, "held": 0}
        for k in range(400):
            program = chance_program(chance, 20, 10) if k % 2 else chance_game(chance)
            base, ends = chance_base(chance, program), self.ends(chance, program)
            if ends is None or paper_of(program, base, *ends, 0) is None:
                continue
            for which, name, check in ((0, "low", self.low), (1, "most", self.most)):
                paper = paper_of(program, base, *ends, which)
                if paper is None:
                    self.check_round(program, base, ends)
                    counts["round"] += 1
                    continue
                counts[name] += 1
                with self.subTest(k=k, which=which):
                    check(True, paper, program, ends, base)
                    for _ in range(8):
                        bent = self.bent(chance, paper)
                        wanted = is_priced(program, base, *ends, which, bent)
                        counts["held" if wanted else "bent"] += 1
                        check(wanted, bent, program, ends, base)
        self.assertGreater(min(counts.values()), 10)

    def check_round(self, program, base, ends):
        """Where there is no paper of the most beats there is a round, from each row of it."""
        one, other = ends
        follows = free_of(program, base, other)
        rounds = 0
        for row in follows:
            ahead = (one,) if row == one else self.walk(follows, one, row)
            turn, behind = self.walk(follows, row, row), self.walk(follows, row, other)
            if None not in (ahead, turn, behind):
                rounds += 1
                self.high(True, ("round", ahead[:-1] + behind, turn), program, ends, base)
        self.assertGreater(rounds, 0)

    def walk(self, follows, begin, end):
        """A shortest walk with at least one step, or None."""
        ways = [(begin, there) for there in follows[begin]]
        seen = set()
        while ways:
            way = ways.pop(0)
            if way[-1] == end:
                return way
            if way[-1] not in seen:
                seen.add(way[-1])
                ways += [way + (there,) for there in follows[way[-1]]]
        return None

    def test_what_is_let_by_is_so(self):
        # All ways of up to 12 rows by going through them: none has less or more beats than the papers say.
        chance = random.Random(31)
        for k in range(150):
            program = chance_program(chance, 8, 10)
            base, ends = chance_base(chance, program), self.ends(chance, program)
            if ends is None:
                continue
            beats = beats_between(program, base)
            ways = all_ways(program, base, *ends)
            for which, check, worst in ((0, self.low, min), (1, self.most, max)):
                paper = paper_of(program, base, *ends, which)
                totals = [sum(beats[step][which] for step in zip(way, way[1:])) for way in ways]
                with self.subTest(k=k, which=which):
                    if not ways:
                        self.assertIsNone(paper)
                    elif paper is not None:
                        check(True, paper, program, ends, base)
                        self.assertEqual(worst(totals), paper[0])


if __name__ == "__main__":
    unittest.main()

import copy
import random
import signal
import unittest
from contextlib import contextmanager

from beamrows.errors import NoRoom, NoSpan
from beamrows.pages import page_signs
from beamrows.seeking import span
from beamrows.spans import right_high, right_low
from beamrows.steps import deed_done
from tests.chance import chance_base, chance_byte, chance_game, chance_hands, chance_program, chance_state, name_of
from tests.model import BEATS, IFS, TooLong, frame_by_words
from tests.papers import all_ways, beats_between, free_of, paper_of
from tests.samples import BRANCH, EVERY, LEAST, LOOP, PROGRAMS, SELF, bases_of, lengths_of, rests, with_item


@contextmanager
def at_once(seconds=20):
    """Fail where it takes longer: a search through all ways would never end."""
    def out_of_time(number, frame):
        raise AssertionError("it is not told at once")

    before = signal.signal(signal.SIGALRM, out_of_time)
    signal.alarm(seconds)
    try:
        yield
    finally:
        signal.alarm(0)
        signal.signal(signal.SIGALRM, before)


def ladder(rungs):
    """Each rung is an if-row over a rest: 2 beats and 2, or 3 and perhaps one more. From row 0 to the last one."""
    rows = []
    for k in range(rungs):
        rows += [(name_of(k), "ifc", name_of(k + 1)), ("", "rest", None)]
    return tuple(rows) + ((name_of(rungs), "go", name_of(0)),)


def scattered(order):
    """The rungs in another order, each with a go to the next one: 3 beats or 2, 2 and 3. From row 0 to the last one."""
    rows = [("", "go", name_of(0))]
    for k in order:
        rows += [(name_of(k), "ifc", name_of(k + 1)), ("", "rest", None), ("", "go", name_of(k + 1))]
    return tuple(rows) + ((name_of(len(order)), "go", name_of(len(order))),)


def long_round(leave, many=119):
    """Rows 1 to many - 1 go round, row 0 is ahead of them; row leave is the one that leads out to the last row."""
    rows = [["", "rest", None] for _ in range(many)]
    rows[1][0] = "begin"
    rows[leave][1:] = ["ifc", "out"]
    rows[-1][1:] = ["go", "begin"]
    return tuple(tuple(row) for row in rows) + (("out", "go", "out"),)


def backward_round(leave, many):
    """The same from the last of so many rows backward; row 1 goes round by itself, too, and leads on by row 2."""
    rows = [["", "go", name_of(many)]] + [[name_of(row), "go", name_of(row - 1)] for row in range(1, many + 1)]
    rows[1][1:] = ["ifc", name_of(1)]
    rows[2][1:] = ["go", name_of(many)]
    rows[3][2] = name_of(1)
    # The row behind the one that leads out goes on for it.
    rows[leave][1:] = ["ifc", "out"]
    rows[leave + 1][2] = name_of(leave - 1)
    rows[leave + 2][2] = name_of(leave)
    return tuple(tuple(row) for row in rows) + (("out", "go", "out"),)


class SpanCase(unittest.TestCase):
    def told(self, program, one, other, base=0):
        """What span tells, let by by the checkers and held against a second writing."""
        kept = copy.deepcopy(program)
        told = span(program, base, one, other)
        self.assertIs(told.__class__, tuple)
        low, high = told
        self.check_low(program, base, one, other, low)
        self.check_high(program, base, one, other, high)
        self.assertEqual(span(program, base, one, other), told)
        self.assertEqual(program, kept)
        return told

    def check_low(self, program, base, one, other, low):
        self.assertIs(right_low(program, base, one, other, low), True)
        self.assertLessEqual(len(low[1]), 200)
        wanted = paper_of(program, base, one, other, 0)
        self.assertEqual((low[0], low[2]), (wanted[0], wanted[2]))

    def check_high(self, program, base, one, other, high):
        self.assertIs(right_high(program, base, one, other, high), True)
        wanted = paper_of(program, base, one, other, 1)
        if wanted is None:
            self.assertEqual((len(high), high[0]), (3, "round"))
            self.assertLessEqual(max(len(high[1]), len(high[2])), 200)
        else:
            self.assertEqual((len(high), high[0]), (4, "most"))
            self.assertLessEqual(len(high[2]), 200)
            self.assertEqual((high[1], high[3]), (wanted[0], wanted[2]))

    def beats(self, program, one, other, base=0):
        """(least beats, most beats or "round")."""
        low, high = self.told(program, one, other, base)
        return (low[0], high[1] if high[0] == "most" else "round")

    def none(self, program, one, other, base=0):
        with self.assertRaises(NoSpan) as caught:
            span(program, base, one, other)
        self.assertIs(caught.exception.__class__, NoSpan)


class WaysTest(SpanCase):
    def test_by_hand(self):
        self.assertEqual(self.told(BRANCH, 0, 5), (
            (9, (0, 1, 4, 5), (0, 3, 5, 8, 6, 9, None, None, (), None, None, None, None)),
            ("most", 13, (0, 1, 2, 3, 4, 5), (0, 3, 5, 8, 10, 13, None, None, (), None, None, None, None)),
        ))
        prices = (3, 6, 8, 11, (), (), None, 0) + (None,) * 5
        self.assertEqual(self.told(BRANCH, 7, 3)[0], (11, (7, 0, 1, 2, 3), prices))
        self.assertEqual(self.told(BRANCH, 7, 8)[1][1], 3 + 3 + 2 + 3 + 3)

    def test_straight_rows(self):
        program = rests(120)
        for one, other in ((0, 1), (0, 119), (5, 6), (5, 100), (117, 119)):
            beats = 2 * (other - one)
            prices = tuple(2 * (row - one) if one <= row <= other else None for row in range(120))
            paper = (beats, tuple(range(one, other + 1)), prices)
            self.assertEqual(self.told(program, one, other), (paper, ("most",) + paper))

    def test_the_beats_of_each_deed(self):
        for mark, deed, value in EVERY:
            if deed in ("wait", "data", "go"):
                continue
            program = (("", deed, "end" if deed in IFS else value), ("", "rest", None), ("end", "go", "end"),
                       ("table", "data", 0))
            with self.subTest(deed):
                most = BEATS[deed] + (deed == "at")
                self.assertEqual(self.beats(program, 0, 1), (BEATS[deed], most))
                self.assertEqual(self.beats(program, 0, 2), (3, 4) if deed in IFS else (BEATS[deed] + 2, most + 2))
        self.assertEqual(self.beats((("", "go", "b"), ("", "rest", None), ("b", "go", "b")), 0, 2), (3, 3))

    def test_if_rows(self):
        program = (("a", "rest", None), ("", "ifz", "m"), ("", "idle", None), ("m", "rest", None), ("", "go", "a"))
        for deed in ("ifz", "ifn", "ifc", "ifd"):
            bent = with_item(program, 1, ("", deed, "m"))
            self.assertEqual(self.beats(bent, 0, 3), (5, 7))
            self.assertEqual(self.beats(bent, 1, 3), (3, 5))
            self.assertEqual(self.beats(bent, 0, 2), (4, "round"))
            self.assertEqual(self.beats(bent, 2, 0), (8, 8))
            # The row behind the if-row is at base + 3, its mark at base + 4.
            for base, most in ((27, 7), (28, 7), (29, 7)):
                self.assertEqual(self.beats(bent, 0, 3, base), (6 if base == 28 else 5, most))

    def test_an_if_row_whose_mark_is_the_row_behind(self):
        program = (("a", "rest", None), ("", "ifd", "b"), ("b", "rest", None), ("", "go", "a"))
        self.assertEqual(self.beats(program, 0, 2), (4, 5))
        self.assertEqual(self.beats(program, 1, 2), (2, 3))
        self.assertEqual(self.beats(program, 1, 0), (7, 8))

    def test_at_with_page_signs_of_both_sorts(self):
        program = (("a", "rest", None), ("", "at", "t"), ("", "rest", None), ("", "go", "a"), ("t", "data", 0))
        for base in (0, 24, 25, 26, 200):
            signs = set(page_signs(program, base)[1])
            self.assertEqual(signs, {0, 1})
            self.assertEqual(self.beats(program, 0, 2, base), (6, 7))
            self.assertEqual(self.beats(program, 1, 0, base), (9, 10))

    def test_rows_that_never_lead_to_other(self):
        program = (("a", "ifz", "out"), ("", "ifc", "lost"), ("", "rest", None), ("m", "wait", None), ("", "go", "a"),
                   ("out", "rest", None), ("", "go", "m"), ("lost", "rest", None), ("", "go", "lost"))
        low, high = self.told(program, 0, 2)
        self.assertEqual(low, (4, (0, 1, 2), (0, 2, 4, None, None, (), (), (), ())))
        self.assertEqual(high, ("most", 4, (0, 1, 2), (0, 2, 4, None, None, (), (), (), ())))

    def test_row_one_is_come_to_again_only_over_other(self):
        program = (("a", "rest", None), ("", "ifz", "c"), ("", "idle", None), ("c", "rest", None), ("", "go", "a"))
        self.assertEqual(self.beats(program, 0, 3), (5, 7))
        self.assertEqual(self.beats(program, 3, 0), (5, 5))
        self.assertEqual(self.beats(program, 4, 3), (8, 10))

    def test_the_shortest_in_rows_is_not_the_one_with_the_least_beats(self):
        # One row of at, or two rests on the way that goes round it; and idles for the most.
        program = (("a", "ifc", "m"), ("", "at", "t"), ("", "go", "e"), ("m", "rest", None), ("", "rest", None),
                   ("e", "rest", None), ("", "go", "a"), ("t", "data", 0))
        self.assertEqual(self.beats(program, 0, 5), (7, 10))
        self.assertEqual(self.told(program, 0, 5)[0][1], (0, 3, 4, 5))
        self.assertEqual(self.told(program, 0, 5)[1][2], (0, 1, 2, 5))
        program = (("a", "ifc", "m"), ("", "lay", 0), ("", "go", "e"), ("m", "rest", None), ("", "rest", None),
                   ("", "rest", None), ("", "rest", None), ("e", "rest", None), ("", "go", "a"))
        self.assertEqual(self.beats(program, 0, 7), (9, 11))

    def test_each_pair_of_rows(self):
        for program in (BRANCH, LOOP, SELF, EVERY):
            rows = range(len(program))
            for base in bases_of(program)[::2]:
                for one in rows:
                    for other in rows:
                        ends = [program[row][1] for row in (one, other)]
                        fits = one != other and "wait" not in ends and "data" not in ends
                        if fits and paper_of(program, base, one, other, 0) is not None:
                            self.told(program, one, other, base)
                        else:
                            self.none(program, one, other, base)


class ManyWaysTest(SpanCase):
    def test_a_ladder(self):
        program = ladder(58)
        self.assertEqual(len(program), 117)
        with at_once():
            low, high = span(program, 0, 0, 116)
        self.told(program, 0, 116)
        # Each rung takes 3 beats at least, or 4 where the page ends in it, and 4 at most.
        crossing = sum(page_signs(program, 0)[0:116:2])
        self.assertGreater(crossing, 0)
        self.assertEqual((low[0], high[1]), (3 * 58 + crossing, 4 * 58))

    def test_120_rows(self):
        program = (("", "rest", None),) + ladder(59)
        self.assertEqual(len(program), 120)
        for one, other in ((0, 119), (1, 119), (119, 118), (60, 59)):
            with at_once():
                self.told(program, one, other)

    def test_rungs_in_any_order(self):
        chance = random.Random(1)
        orders = [list(range(39)), list(range(38, -1, -1)), list(range(0, 39, 2)) + list(range(1, 39, 2))]
        orders += [chance.sample(range(39), 39) for _ in range(5)]
        for order in orders:
            program = scattered(order)
            self.assertEqual(len(program), 119)
            with at_once():
                low, high = span(program, 0, 0, 118)
            self.told(program, 0, 118)
            self.assertTrue(3 + 3 * 39 <= low[0] <= 3 + 4 * 39)
            self.assertEqual(high[1], 3 + 7 * 39)

    def test_very_many_ways_and_a_round(self):
        # The last row of the ladder leads back to its begin, or out.
        program = ladder(57)[:-1] + ((name_of(57), "ifc", name_of(0)), ("", "go", name_of(57)))
        self.assertEqual(len(program), 116)
        with at_once():
            low, high = span(program, 0, 0, 115)
        self.assertEqual(high[0], "round")
        self.told(program, 0, 115)

    def test_very_many_rounds(self):
        # Each row leads back to the first one.
        program = (("a", "rest", None),) + (("", "ifc", "a"),) * 118 + (("", "go", "a"),)
        with at_once():
            self.assertEqual(self.beats(program, 0, 119), (2 * 119, "round"))
            self.assertEqual(self.beats(program, 0, 1), (2, 2))
            self.assertEqual(self.beats(program, 0, 2), (4, "round"))


class RoundTest(SpanCase):
    def test_by_hand(self):
        low, high = self.told(LOOP, 0, 4)
        self.assertEqual(low, (9, (0, 1, 2, 3, 4), (0, 2, 4, 7, 9, None, None)))
        self.assertEqual(high[:2], ("round", (0, 1, 2, 3, 4)))
        self.assertIn(high[2], ((1, 2, 3, 1), (2, 3, 1, 2), (3, 1, 2, 3)))
        self.assertEqual(self.told(SELF, 0, 1)[1], ("round", (0, 1), (0, 0)))

    def test_a_round_over_other_is_none(self):
        self.assertEqual(self.beats(LOOP, 0, 2), (4, 4))
        self.assertEqual(self.beats(LOOP, 2, 1), (6, 6))
        self.assertEqual(self.beats(SELF, 1, 0), (5, 5))
        self.assertEqual(self.beats(SELF, 2, 0), (3, 3))
        program = (("a", "rest", None), ("b", "ifz", "b"), ("", "go", "a"))
        self.assertEqual(self.beats(program, 0, 1), (2, 2))

    def test_a_round_over_one(self):
        self.assertEqual(self.beats(LOOP, 1, 4), (7, "round"))
        self.assertEqual(self.beats(LOOP, 2, 4), (5, "round"))
        self.assertEqual(self.beats(SELF, 0, 2), (4, "round"))

    def test_a_round_over_a_wait_is_none(self):
        program = (("a", "rest", None), ("b", "ifz", "c"), ("", "wait", None), ("", "go", "b"), ("c", "rest", None),
                   ("", "go", "a"))
        self.assertEqual(self.beats(program, 0, 4), (5, 5))
        self.assertEqual(self.beats(with_item(program, 2, ("", "rest", None)), 0, 4), (5, "round"))
        self.assertEqual(self.beats(with_item(program, 3, ("", "go", "a")), 0, 4), (5, 5))

    def test_a_round_that_other_is_not_come_to_from(self):
        program = (("a", "rest", None), ("", "ifz", "c"), ("", "rest", None), ("", "go", "a"), ("c", "rest", None),
                   ("", "go", "c"))
        low, high = self.told(program, 0, 2)
        self.assertEqual(high, ("most", 4, (0, 1, 2), (0, 2, 4, None, (), ())))
        self.assertEqual(low, (4, (0, 1, 2), (0, 2, 4, None, (), ())))
        # With a step out of it to row 3 it is still none, for other is row 2.
        bent = with_item(program, 5, ("", "ifz", "c")) + (("", "wait", None), ("", "go", "c"))
        self.assertEqual(self.beats(bent, 0, 2), (4, 4))

    def test_a_round_that_is_not_come_to(self):
        program = (("a", "rest", None), ("", "rest", None), ("m", "rest", None), ("", "go", "a"), ("c", "ifz", "c"),
                   ("", "go", "m"))
        self.assertEqual(self.beats(program, 0, 2), (4, 4))
        self.assertEqual(self.beats(program, 4, 2), (5, "round"))

    def test_a_round_on_a_side_way(self):
        # The way over row 3 has it, the shorter one has not.
        program = (("a", "ifz", "side"), ("e", "rest", None), ("", "go", "a"), ("side", "ifc", "side"),
                   ("", "rest", None), ("", "go", "e"))
        low, high = self.told(program, 0, 1)
        self.assertEqual(low[:2], (2, (0, 1)))
        self.assertEqual(high, ("round", (0, 3, 4, 5, 1), (3, 3)))

    def test_a_round_begun_far_off(self):
        # A way over the round's last row would go through most rows twice.
        for many in (20, 80, 119):
            for leave in {2, many // 2, many - 19, many - 2}:
                program = long_round(leave, many)
                low, high = self.told(program, 0, many)
                self.assertEqual(low[1], tuple(range(leave + 1)) + (many,))
                self.assertEqual(high[0], "round")
                for one in range(1, many - 1, 9):
                    self.assertEqual(self.beats(program, one, many)[1], "round")

    def test_a_round_begun_far_off_backward(self):
        for leave in (5, 20, 60, 100):
            program = backward_round(leave, 114)
            self.assertEqual(sum(lengths_of(program)), 2 * 116)
            low, high = self.told(program, 0, 115)
            self.assertEqual(high[0], "round")
            self.assertLess(len(low[1]), 114)
            # Over row 1 the way to row out is nearly twice as long.
            around = free_of(program, 0, 115)
            self.assertEqual((around[1], around[2]), ([1, 2], [114]))

    def test_two_rounds(self):
        program = (("a", "rest", None), ("b", "ifz", "b"), ("c", "ifc", "c"), ("", "rest", None), ("", "go", "a"))
        self.assertEqual(self.beats(program, 0, 3), (6, "round"))
        self.assertEqual(self.beats(program, 0, 2), (4, "round"))
        self.assertEqual(self.beats(program, 0, 1), (2, 2))
        self.assertEqual(self.beats(program, 3, 0), (5, 5))


class RefusalTest(SpanCase):
    def test_one_is_other(self):
        for program in (BRANCH, LOOP, SELF, LEAST, EVERY):
            for row in range(len(program)):
                self.none(program, row, row)

    def test_waits_and_table_rows(self):
        for one, other in ((0, 5), (5, 6), (4, 5), (5, 0), (5, 5)):
            self.none(LOOP, one, other)
        for one, other in ((0, 12), (12, 0), (11, 12), (12, 11), (0, 6), (6, 7), (8, 9), (9, 10)):
            self.none(BRANCH, one, other)

    def test_only_over_a_wait(self):
        for one, other in ((4, 6), (0, 6), (3, 6)):
            self.none(LOOP, one, other)
            # With a rest for the wait there is a way.
            self.told(with_item(LOOP, 5, ("", "rest", None)), one, other)
        for one, other in ((5, 7), (5, 0), (4, 0), (8, 10), (8, 0), (3, 0)):
            self.none(BRANCH, one, other)

    def test_not_at_all(self):
        for one in (0, 1, 7, 8, 10):
            self.none(BRANCH, one, 11)
            self.none(BRANCH, 11, one)
        self.none(BRANCH, 2, 1)
        self.none(BRANCH, 8, 4)
        self.none(rests(10), 5, 4)
        self.none(rests(10), 9, 0)

    def test_numbers_that_no_row_has(self):
        for one, other in ((0, 13), (13, 0), (-1, 5), (0, -8), (0, 200), (-13, 5), (14, 15)):
            self.none(BRANCH, one, other)

    def test_no_room_ahead_of_all(self):
        for program in PROGRAMS + (BRANCH, LOOP, SELF):
            last = 256 - sum(lengths_of(program))
            for base in {last + 1, 255} - {last}:
                for one, other in ((0, 1), (0, 0), (5, 6), (1, 0), (0, 500)):
                    with self.assertRaises(NoRoom):
                        span(program, base, one, other)
            self.none(program, 0, 0, last)


class ChanceTest(SpanCase):
    def ends(self, chance, program):
        """Two unlike rows that are neither waits nor table rows, or None."""
        rows = [row for row in range(len(program)) if program[row][1] not in ("wait", "data")]
        return tuple(chance.sample(rows, 2)) if len(rows) > 1 else None

    def test_held_against_a_second_writing(self):
        chance = random.Random(31)
        counts = {"none": 0, "most": 0, "round": 0}
        for k in range(500):
            program = chance_program(chance, chance.choice((8, 20, 90)), 8) if k % 3 else chance_game(chance)
            base, ends = chance_base(chance, program), self.ends(chance, program)
            if ends is None:
                continue
            with self.subTest(k):
                if paper_of(program, base, *ends, 0) is None:
                    counts["none"] += 1
                    self.none(program, *ends, base)
                else:
                    counts[self.told(program, *ends, base)[1][0]] += 1
        self.assertGreater(min(counts.values()), 20)

    def test_no_way_has_less_or_more(self):
        chance = random.Random(32)
        found = 0
        for k in range(300):
            program = chance_program(chance, 9, 10)
            base, ends = chance_base(chance, program), self.ends(chance, program)
            ways = all_ways(program, base, *ends) if ends else []
            if not ways:
                continue
            found += 1
            beats = beats_between(program, base)
            totals = [[sum(beats[step][which] for step in zip(way, way[1:])) for way in ways] for which in (0, 1)]
            with self.subTest(k):
                low, high = span(program, base, *ends)
                self.assertEqual(min(totals[0]), low[0])
                if high[0] == "most":
                    self.assertEqual(max(totals[1]), high[1])
                # Where rows come twice on some way, or it would go on for ever, there is a round.
                turns = any(len(set(way)) < len(way) for way in ways)
                self.assertLessEqual(turns, high[0] == "round")
        self.assertGreater(found, 80)

    def test_a_round_is_one(self):
        # Walked by the second writing, not by the checker.
        chance = random.Random(33)
        found = 0
        for k in range(300):
            program = chance_program(chance, 25, 3)
            base, ends = chance_base(chance, program), self.ends(chance, program)
            if ends is None or paper_of(program, base, *ends, 0) is None:
                continue
            high = span(program, base, *ends)[1]
            if high[0] == "round":
                found += 1
                follows = free_of(program, base, ends[1])
                way, turn = high[1:]
                with self.subTest(k):
                    self.assertEqual((way[0], way[-1], turn[0]), (*ends, turn[-1]))
                    self.assertIn(turn[0], way[:-1])
                    for walk in (way, turn):
                        self.assertTrue(all(there in follows[here] for here, there in zip(walk, walk[1:])))
                        self.assertNotIn(ends[1], walk[:-1])
                        self.assertTrue(2 <= len(walk) <= 200)
        self.assertGreater(found, 30)

    def test_what_rows_do_takes_such_beats(self):
        chance = random.Random(34)
        counts = {"most": 0, "round": 0}
        for k in range(400):
            program = chance_program(chance, 15, 8)
            base, state = chance_base(chance, program), chance_state(chance, program)
            one, total = state[0], 0
            if program[one][1] == "wait":
                continue
            seen = {one}
            for _ in range(40):
                told = deed_done(program, base, state, chance_byte(chance))
                total += told[6]
                state = told[:6] + state[6:]
                row = state[0]
                if program[row][1] == "wait":
                    break
                if row not in seen:
                    seen.add(row)
                    low, high = span(program, base, one, row)
                    counts[high[0]] += 1
                    with self.subTest(k=k, row=row):
                        self.assertLessEqual(low[0], total)
                        if high[0] == "most":
                            self.assertLessEqual(total, high[1])
        self.assertGreater(min(counts.values()), 40)

    def test_what_runs_do_takes_such_beats(self):
        chance = random.Random(35)
        counts = 0
        for k in range(60):
            program = chance_game(chance)
            base = chance_base(chance, program)
            try:
                told = frame_by_words(program, base, chance_state(chance, program), chance_hands(chance))
            except TooLong:
                continue
            rows = [(row, 32 * line + beat) for row, line, beat in told[2]]
            for at, (one, begin) in enumerate(rows):
                seen = {one}
                for other, end in rows[at + 1:]:
                    if program[one][1] == "wait" or program[other][1] == "wait" or other in seen:
                        break
                    seen.add(other)
                    low, high = span(program, base, one, other)
                    counts += 1
                    self.assertLessEqual(low[0], end - begin)
                    if high[0] == "most":
                        self.assertLessEqual(end - begin, high[1])
        self.assertGreater(counts, 500)

    def test_bases_with_the_same_page_signs(self):
        chance = random.Random(36)
        found = 0
        for k in range(60):
            program = chance_program(chance, 14, 8)
            ends = self.ends(chance, program)
            if ends is None or paper_of(program, 0, *ends, 0) is None:
                continue
            by_signs = {}
            for base in range(256 - sum(lengths_of(program)) + 1):
                by_signs.setdefault(page_signs(program, base), []).append(base)
            for bases in by_signs.values():
                low, high = span(program, bases[0], *ends)
                for base in bases[1:4]:
                    found += 1
                    self.assertEqual(span(program, base, *ends), (low, high))
                    self.assertIs(right_low(program, base, *ends, low), True)
                    self.assertIs(right_high(program, base, *ends, high), True)
        self.assertGreater(found, 50)


if __name__ == "__main__":
    unittest.main()

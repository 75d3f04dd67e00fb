import copy
import random
import unittest

from beamrows.desk import Desk
from beamrows.errors import NoFrame, NoRoom, NoState, NoStep, TooMany
from beamrows.frames import frame
from beamrows.runs import is_in_time, run
from beamrows.states import is_state, start
from tests.chance import chance_base, chance_frames, chance_game, chance_hands, chance_program, chance_state
from tests.samples import EYES, GROUND, LEAST, LOOPS, PROGRAMS, anything, changed, lengths_of, with_item
from tests.test_times import BUTTONS, GOOD, LONG, LOST

NO_HANDS = (0, 0, 0)
# One line a frame, its ground as the first stick says, from beat 6 on, in later frames from beat 9 on.
STICK = (("a", "eye", 0), ("", "door", 2), ("", "door", 0), ("", "wait", None), ("", "go", "a"))


def seen(desk):
    """All that a desk tells."""
    return (desk.frames(), desk.state(), [desk.log(k) for k in range(desk.frames())], desk.in_time())


class Model:
    """What a desk should tell, by frames played one by one from a list of the states with which they begin."""

    def __init__(self, program, base):
        self.program, self.base = program, base
        self.begin, self.hands = start(program), []

    def played(self):
        told, state = [], self.begin
        for hands in self.hands:
            told.append(frame(self.program, self.base, state, hands))
            state = told[-1][3]
        return told

    def seen(self):
        told = self.played()
        state = told[-1][3] if told else self.begin
        return (len(told), state, [log for picture, log, rows, state in told],
                is_in_time(self.program, [rows for picture, log, rows, state in told]))


class DeskCase(unittest.TestCase):
    def refused(self, error, desk, deed):
        """A refused deed of its own sort, which leaves all as it was."""
        before = copy.deepcopy(seen(desk))
        with self.assertRaises(error) as caught:
            deed()
        self.assertIs(caught.exception.__class__, error)
        self.assertEqual(seen(desk), before)


class PlayTest(DeskCase):
    def test_a_new_desk(self):
        for program in PROGRAMS + (GROUND, EYES):
            desk = Desk(program, 0)
            self.assertEqual(desk.frames(), 0)
            self.assertEqual(desk.state(), start(program))
            self.assertIs(desk.in_time(), True)
            for k in (0, 1, -1, 60):
                self.refused(NoStep, desk, lambda: desk.log(k))
            self.refused(NoStep, desk, desk.back)

    def test_by_hand(self):
        desk = Desk(STICK, 0)
        for number, hands in enumerate(((5, 0, 0), (9, 0, 0), (0, 0, 0))):
            picture = desk.frame(hands)
            self.assertEqual(picture[0][47], hands[0])
            self.assertEqual(desk.frames(), number + 1)
        self.assertEqual([desk.log(k)[2][0] for k in range(3)], [(0, 6, 2, 5), (0, 9, 2, 9), (0, 9, 2, 0)])
        self.assertIs(desk.in_time(), True)
        self.assertIsNone(desk.back())
        self.assertEqual((desk.frames(), desk.state()[6][2]), (2, 9))

    def test_as_a_run(self):
        chance = random.Random(39)
        for program in (STICK, GROUND, EYES, LOOPS):
            for base in (0, 27, 150):
                tale = tuple(chance_hands(chance) for _ in range(12))
                desk = Desk(program, base)
                for number, (picture, log, rows, state) in enumerate(run(program, base, tale, 12)):
                    self.assertEqual(desk.frame(tale[number]), picture)
                    self.assertEqual(desk.state(), state)
                    self.assertEqual(desk.log(number), log)
                    self.assertEqual(desk.frames(), number + 1)

    def test_kinds(self):
        desk = Desk(EYES, 0)
        picture = desk.frame((1, 2, 3))
        self.assertEqual((picture.__class__, picture[0].__class__), (tuple, tuple))
        self.assertEqual((desk.frames().__class__, desk.log(0).__class__), (int, tuple))
        self.assertIs(is_state(EYES, desk.state()), True)
        self.assertIs(desk.in_time(), True)
        self.assertIsNone(desk.go(desk.state()))
        for name in ("frame", "state", "frames", "log", "back", "go", "in_time"):
            self.assertIn(name, vars(Desk))

    def test_asked_again(self):
        desk = Desk(EYES, 0)
        for _ in range(3):
            desk.frame((1, 0, 0))
            self.assertEqual(seen(desk), seen(desk))

    def test_logs_of_frames_that_there_are_not(self):
        desk = Desk(EYES, 0)
        for many in range(1, 5):
            desk.frame(NO_HANDS)
            for k in (many, many + 1, 60, 1000, -1, -many, -many - 1):
                self.refused(NoStep, desk, lambda: desk.log(k))


class BackTest(DeskCase):
    def test_each_state_again(self):
        desk = Desk(STICK, 0)
        states = [desk.state()]
        for number in range(8):
            desk.frame((number, 0, 0))
            states.append(desk.state())
        for number in range(8, 0, -1):
            self.assertEqual((desk.frames(), desk.state()), (number, states[number]))
            desk.back()
            self.refused(NoStep, desk, lambda: desk.log(number - 1))
        self.assertEqual(seen(desk), (0, start(STICK), [], True))
        self.refused(NoStep, desk, desk.back)

    def test_another_frame_in_its_place(self):
        desk, other = Desk(STICK, 0), Desk(STICK, 0)
        for hands in ((1, 0, 0), (2, 0, 0)):
            desk.frame(hands)
        desk.back()
        desk.frame((7, 0, 0))
        other.frame((1, 0, 0))
        other.frame((7, 0, 0))
        self.assertEqual(seen(desk), seen(other))

    def test_back_behind_go(self):
        desk = Desk(STICK, 0)
        desk.frame((4, 0, 0))
        state = desk.state()
        desk.frame((5, 0, 0))
        desk.go(state)
        self.refused(NoStep, desk, desk.back)
        desk.frame((6, 0, 0))
        desk.back()
        # The state ahead of the frame is the one that was gone to.
        self.assertEqual(seen(desk), (0, state, [], True))


class GoTest(DeskCase):
    def test_all_frames_are_forgotten(self):
        desk = Desk(EYES, 0)
        desk.frame((1, 1, 0))
        state = desk.state()
        desk.frame((0, 1, 0))
        desk.frame((0, 0, 0))
        desk.go(state)
        self.assertEqual(seen(desk), (0, state, [], True))
        self.refused(NoStep, desk, lambda: desk.log(0))

    def test_from_the_middle(self):
        chance = random.Random(40)
        for program in (STICK, EYES, LOOPS, GROUND):
            tale = tuple(chance_hands(chance) for _ in range(8))
            played = run(program, 3, tale, 8)
            for middle in range(7):
                desk = Desk(program, 3)
                desk.go(played[middle][3])
                pictures = [desk.frame(hands) for hands in tale[middle + 1:]]
                self.assertEqual(pictures, [told[0] for told in played[middle + 1:]])
                self.assertEqual([desk.log(k) for k in range(desk.frames())], [told[1] for told in played[middle + 1:]])
                self.assertEqual(desk.state(), played[-1][3])

    def test_any_state(self):
        chance = random.Random(41)
        for k in range(60):
            program = chance_program(chance, 12, 30)
            state, hands = chance_state(chance, program), chance_hands(chance)
            desk = Desk(program, 0)
            desk.go(state)
            self.assertEqual(desk.state(), state)
            try:
                picture, log, rows, behind = frame(program, 0, state, hands)
            except NoFrame:
                self.refused(NoFrame, desk, lambda: desk.frame(hands))
                continue
            self.assertEqual(desk.frame(hands), picture)
            self.assertEqual(seen(desk), (1, behind, [log], is_in_time(program, [rows])))

    def test_what_is_no_state(self):
        desk = Desk(EYES, 0)
        desk.frame((1, 2, 3))
        desk.frame((3, 2, 1))
        for k, thing in enumerate(anything()):
            kept = copy.deepcopy(thing)
            with self.subTest(k):
                self.refused(NoState, desk, lambda: desk.go(thing))
                for field in range(12):
                    bent = with_item(desk.state(), field, thing)
                    if not is_state(EYES, bent):
                        self.refused(NoState, desk, lambda: desk.go(bent))
                self.assertEqual(thing, kept)
        state = start(EYES)
        for bent in (list(state), state[:-1], state + (0,), changed(state, row=14), changed(state, row=15),
                     changed(state, row=-1), changed(state, a=256), changed(state, x=True), changed(state, beat=5),
                     changed(state, waiting=1), changed(state, waiting=1, beat=1), changed(state, timer=4081),
                     changed(state, meetings=64), changed(state, memory=(0,) * 15), changed(state, doors=[0] * 20)):
            self.refused(NoState, desk, lambda: desk.go(bent))
        # Waiting behind a wait is one.
        desk.go(changed(state, row=4, waiting=1, beat=1))
        self.assertEqual(desk.frames(), 0)

    def test_a_state_of_another_program(self):
        desk = Desk(STICK, 0)
        self.refused(NoState, desk, lambda: desk.go(changed(start(EYES), row=9)))
        desk.go(changed(start(EYES), row=4))


class InTimeTest(DeskCase):
    def test_a_late_frame_taken_back(self):
        desk = Desk(BUTTONS, 0)
        for hands, wanted in ((GOOD, True), (GOOD, True), (LONG, False), (GOOD, False)):
            desk.frame(hands)
            self.assertIs(desk.in_time(), wanted)
        desk.back()
        self.assertIs(desk.in_time(), False)
        desk.back()
        self.assertIs(desk.in_time(), True)
        desk.frame(GOOD)
        self.assertIs(desk.in_time(), True)

    def test_a_late_frame_forgotten(self):
        desk = Desk(BUTTONS, 0)
        desk.frame(LONG)
        self.assertIs(desk.in_time(), False)
        desk.go(desk.state())
        self.assertIs(desk.in_time(), True)
        desk.frame(GOOD)
        self.assertIs(desk.in_time(), True)

    def test_the_first_row_of_the_first_frame(self):
        # From the begin of the rows the wait is not come to in time, from their middle it is.
        program = (("a", "rest", None),) + (("", "rest", None),) * 16 + GROUND[2:]
        for row in range(17):
            desk = Desk(program, 0)
            desk.go(changed(start(program), row=row))
            desk.frame(NO_HANDS)
            self.assertIs(desk.in_time(), 2 * (17 - row) + 3 <= 30)
        # Two rows in line 0 and the wait in line 1, where the first row began waiting: all in line 1.
        program = (("a", "wait", None), ("", "rest", None), ("", "door", 0), ("", "wait", None), ("", "go", "a"))
        desk = Desk(program, 0)
        desk.go(changed(start(program), row=1, waiting=1, beat=1))
        self.assertEqual(len(desk.frame(NO_HANDS)), 2)
        self.assertIs(desk.in_time(), True)

    def test_over_the_ends_of_frames(self):
        # The wait is begun in the frame behind the one in which its line's first row began.
        program = (("a", "door", 0),) + (("", "rest", None),) * 15 + (("", "wait", None), ("", "go", "a"))
        desk = Desk(program, 0)
        desk.frame(NO_HANDS)
        self.assertEqual(desk.state()[0], 16)
        self.assertIs(desk.in_time(), True)
        state = desk.state()
        desk.frame(NO_HANDS)
        self.assertIs(desk.in_time(), False)
        # Gone on from there, the wait itself is the first row.
        desk.go(state)
        desk.frame(NO_HANDS)
        self.assertIs(desk.in_time(), True)

    def test_by_chance(self):
        chance = random.Random(42)
        told = []
        for k in range(100):
            program = chance_game(chance)
            desk, rows, state = Desk(program, 0), [], start(program)
            for _ in range(3):
                hands = chance_hands(chance)
                try:
                    picture, log, begun, state = frame(program, 0, state, hands)
                except NoFrame:
                    break
                desk.frame(hands)
                rows.append(begun)
                self.assertIs(desk.in_time(), is_in_time(program, rows))
                told.append(desk.in_time())
        self.assertGreater(told.count(True), 20)
        self.assertGreater(told.count(False), 20)


class RefusalTest(DeskCase):
    def test_no_room(self):
        for program in PROGRAMS + (STICK, EYES, LOOPS):
            last = 256 - sum(lengths_of(program))
            Desk(program, last)
            for base in {last + 1, 255} - {last}:
                with self.assertRaises(NoRoom) as caught:
                    Desk(program, base)
                self.assertIs(caught.exception.__class__, NoRoom)

    def test_no_end(self):
        desk = Desk(LEAST, 0)
        for _ in range(3):
            self.refused(NoFrame, desk, lambda: desk.frame(NO_HANDS))
        desk = Desk(BUTTONS, 0)
        desk.frame(GOOD)
        self.refused(NoFrame, desk, lambda: desk.frame(LOST))
        # It goes on as if it had not been asked.
        other = Desk(BUTTONS, 0)
        other.frame(GOOD)
        desk.frame(GOOD)
        other.frame(GOOD)
        self.assertEqual(seen(desk), seen(other))

    def test_sixty_frames(self):
        desk = Desk(BUTTONS, 0)
        for number in range(60):
            self.assertEqual(desk.frames(), number)
            desk.frame(GOOD)
        self.assertEqual(desk.frames(), 60)
        self.assertEqual(len([desk.log(k) for k in range(60)]), 60)
        self.refused(NoStep, desk, lambda: desk.log(60))
        for hands in (GOOD, LONG, LOST):
            self.refused(TooMany, desk, lambda: desk.frame(hands))
        self.assertEqual(desk.frames(), 60)
        # One taken back leaves room for one.
        desk.back()
        self.refused(NoFrame, desk, lambda: desk.frame(LOST))
        desk.frame(LONG)
        self.assertIs(desk.in_time(), False)
        self.refused(TooMany, desk, lambda: desk.frame(LOST))
        desk.go(desk.state())
        self.assertEqual(desk.frames(), 0)
        for _ in range(60):
            desk.frame(GOOD)
        self.refused(TooMany, desk, lambda: desk.frame(GOOD))
        self.refused(NoState, desk, lambda: desk.go(None))

    def test_more_frames_than_a_run_has(self):
        desk = Desk(STICK, 0)
        state = start(STICK)
        for number in range(60):
            picture, log, rows, state = frame(STICK, 0, state, (number % 16, 0, 0))
            self.assertEqual(desk.frame((number % 16, 0, 0)), picture)
            self.assertEqual((desk.state(), desk.log(number)), (state, log))


class ManyDesksTest(DeskCase):
    def test_side_by_side(self):
        one, other = Desk(STICK, 0), Desk(STICK, 0)
        third = Desk(EYES, 40)
        one.frame((3, 0, 0))
        self.assertEqual((other.frames(), other.state(), third.frames()), (0, start(STICK), 0))
        other.frame((4, 0, 0))
        third.frame((5, 0, 0))
        one.frame((6, 0, 0))
        one.back()
        kept = seen(other), seen(third)
        one.go(start(STICK))
        self.assertEqual((seen(other), seen(third)), kept)
        self.assertEqual(one.frames(), 0)
        other.back()
        self.assertEqual(third.frames(), 1)

    def test_what_is_told_may_be_kept(self):
        desk = Desk(EYES, 0)
        picture, state, log = desk.frame((1, 2, 0)), desk.state(), desk.log(0)
        kept = copy.deepcopy((picture, state, log))
        for _ in range(3):
            desk.frame((2, 1, 3))
        desk.back()
        desk.go(start(EYES))
        desk.frame((7, 7, 1))
        self.assertEqual((picture, state, log), kept)

    def test_what_is_handed_in_stays_as_it_was(self):
        program, hands, state = copy.deepcopy(EYES), (1, 2, 3), start(EYES)
        desk = Desk(program, 5)
        desk.frame(hands)
        desk.go(state)
        desk.frame(hands)
        self.assertEqual((program, hands, state), (EYES, (1, 2, 3), start(EYES)))

    def test_deeds_by_chance(self):
        chance = random.Random(43)
        counts = {"frame": 0, "back": 0, "go": 0, "none": 0, "lost": 0}
        for k in range(25):
            pairs = []
            for _ in range(2):
                program = chance_frames(chance) if k % 2 else chance_game(chance)
                base = chance_base(chance, program)
                pairs.append((Desk(program, base), Model(program, base)))
            for _ in range(25):
                desk, model = chance.choice(pairs)
                with self.subTest(k):
                    counts[self.deed(chance, desk, model)] += 1
                    for desk, model in pairs:
                        self.assertEqual(seen(desk), model.seen())
        self.assertGreater(min(counts.values()), 5)

    def deed(self, chance, desk, model):
        """One deed by chance, done with both; its name."""
        sort = chance.randrange(8)
        if sort < 5:
            hands = chance_hands(chance)
            state = model.seen()[1]
            try:
                picture = frame(model.program, model.base, state, hands)[0]
            except NoFrame:
                self.refused(NoFrame, desk, lambda: desk.frame(hands))
                return "lost"
            self.assertEqual(desk.frame(hands), picture)
            model.hands.append(hands)
            return "frame"
        if sort < 7:
            if not model.hands:
                self.refused(NoStep, desk, desk.back)
                return "none"
            desk.back()
            model.hands.pop()
            return "back"
        state = chance_state(chance, model.program)
        desk.go(state)
        model.begin, model.hands = state, []
        return "go"


if __name__ == "__main__":
    unittest.main()

import copy
import random
import unittest

from beamrows.pictures import meetings_of, plain, quick, right_log
from beamrows.places import colour, meetings
from tests.samples import anything, doors_with, with_item

BUSY = doors_with({2: 20, 3: 30, 4: 0b10110001, 5: 0b11001010, 6: 0b1001101, 8: 3, 9: 30, 10: 0b10100101, 11: 0b11110000,
                   12: 120, 13: 130, 14: 1, 15: 2, 16: 20, 17: 5})
EACH_BEAT = tuple((line, beat, beat % 20, (7 * beat + line) % 256) for line in range(26) for beat in range(32))
GOOD = (3, BUSY, ((0, 0, 2, 5), (0, 31, 3, 255), (1, 8, 0, 0), (2, 31, 19, 1)))


def drawn_by_words(log):
    """The picture and all meetings, beat by beat, by the words of point 13."""
    lines, doors, writes = log
    written = {(line, beat): (door, value) for line, beat, door, value in writes}
    held = list(doors)
    picture, met = [], 0
    for line in range(lines):
        colours = []
        for beat in range(32):
            if (line, beat) in written:
                door, value = written[line, beat]
                held[door] = value
            if beat >= 8:
                for place in (2 * (beat - 8), 2 * (beat - 8) + 1):
                    colours.append(colour(tuple(held), place))
                    met |= meetings(tuple(held), place)
        picture.append(tuple(colours))
    return tuple(picture), met


def chance_log(chance):
    """A log by chance, with few or many writes."""
    lines = chance.choice((1, 2, 3, 7, 40))
    spots = [(line, beat) for line in range(lines) for beat in range(32)]
    many = min(chance.choice((0, 1, 3, 20, 100)), len(spots))
    writes = []
    for line, beat in sorted(chance.sample(spots, many)):
        door = chance.randrange(20)
        # A blank would hide most of what is drawn behind it.
        value = chance.choice((0, 0, 1)) if door == 1 else chance.randrange(256)
        writes.append((line, beat, door, value))
    doors = with_item(tuple(chance.randrange(256) for _ in range(20)), 1, chance.choice((0, 0, 0, 9)))
    return (lines, doors, tuple(writes))


class RightLogTest(unittest.TestCase):
    def yes(self, thing):
        self.assertIs(right_log(thing), True)

    def no(self, thing):
        self.assertIs(right_log(thing), False)

    def test_lines(self):
        for lines in range(1, 41):
            self.yes((lines, BUSY, ()))
            self.yes((lines, BUSY, ((lines - 1, 31, 19, 255),)))
            self.no((lines, BUSY, ((lines, 0, 0, 0),)))
        for lines in (0, -1, 41, 42, 10 ** 5000):
            self.no((lines, BUSY, ()))

    def test_writes(self):
        self.yes(GOOD)
        for beat in range(32):
            self.yes((1, BUSY, ((0, beat, 3, 4),)))
            self.yes((2, BUSY, ((0, beat, 3, 4), (1, beat, 3, 4))))
        for beat in range(31):
            self.yes((1, BUSY, ((0, beat, 3, 4), (0, beat + 1, 3, 4))))
        self.yes((2, BUSY, ((0, 31, 3, 4), (1, 0, 3, 4))))
        self.yes((1, BUSY, tuple((0, beat, 1, 2) for beat in range(8))))

    def test_how_many_writes(self):
        self.yes((26, BUSY, EACH_BEAT[:799]))
        self.yes((26, BUSY, EACH_BEAT[:800]))
        self.no((26, BUSY, EACH_BEAT[:801]))
        self.no((26, BUSY, EACH_BEAT))

    def test_order_of_writes(self):
        self.no((1, BUSY, ((0, 5, 1, 2), (0, 5, 1, 2))))
        self.no((1, BUSY, ((0, 5, 1, 2), (0, 5, 3, 2))))
        self.no((1, BUSY, ((0, 6, 1, 2), (0, 5, 1, 2))))
        self.no((2, BUSY, ((1, 5, 1, 2), (0, 6, 1, 2))))
        self.no((2, BUSY, ((1, 0, 1, 2), (0, 31, 1, 2))))
        self.no((3, BUSY, GOOD[2] + ((2, 31, 1, 2),)))
        self.no((3, BUSY, GOOD[2] + ((2, 30, 1, 2),)))
        self.no((3, BUSY, GOOD[2][::-1]))

    def test_each_number_out_of_its_bounds(self):
        bounds = (2, 31, 19, 255)
        for at, greatest in enumerate(bounds):
            for value in (0, greatest):
                self.yes((3, BUSY, (with_item((1, 1, 1, 1), at, value),)))
            for value in (-1, greatest + 1, -10 ** 30, 10 ** 5000):
                self.no((3, BUSY, (with_item((1, 1, 1, 1), at, value),)))
        for door in range(20):
            self.yes((3, with_item(BUSY, door, 255), ()))
            for value in (-1, 256):
                self.no((3, with_item(BUSY, door, value), ()))

    def test_another_kind(self):
        wrong = (True, False, None, "", "1", (), (1,), [], [1], {}, {1: 1})
        for thing in wrong:
            self.no((thing, BUSY, ()))
            self.no((3, thing, ()))
            self.no((3, BUSY, (thing,)))
            if thing != ():
                self.no((3, BUSY, thing))
            for door in (0, 1, 19):
                self.no((3, with_item(BUSY, door, thing), ()))
            for at in range(4):
                self.no((3, BUSY, (with_item((1, 1, 1, 1), at, thing),)))
                self.no((3, BUSY, (with_item((1, 1, 1, 1), at, thing), (2, 2, 2, 2))))
        self.no(list(GOOD))
        self.no((3, list(BUSY), ()))
        self.no((3, BUSY, list(GOOD[2])))
        self.no((3, BUSY, [*GOOD[2]]))
        self.no((3, BUSY, ([0, 0, 2, 5],)))
        self.no({0: 3, 1: BUSY, 2: ()})

    def test_an_entry_more_or_fewer(self):
        for at in range(3):
            self.no(GOOD[:at] + GOOD[at + 1:])
            self.no(GOOD[:at] + GOOD[at:at + 1] + GOOD[at:])
        self.no(GOOD + ((),))
        self.no(())
        for doors in (BUSY[1:], BUSY + (0,), ()):
            self.no((3, doors, ()))
        for write in ((0, 0, 2), (0, 0, 2, 5, 0), (), (0,)):
            self.no((3, BUSY, (write,)))
            self.no((3, BUSY, (write,) + ((1, 0, 0, 0),)))

    def test_anything(self):
        for k, thing in enumerate(anything()):
            with self.subTest(k):
                kept = copy.deepcopy(thing)
                self.no(thing)
                self.assertIs(right_log((3, BUSY, ((0, 0, 0, 0), thing, (2, 0, 0, 0)))), thing == (1, 2, 3, 4))
                self.assertEqual(thing, kept)
                for at in range(3):
                    fits = (at == 0 and thing.__class__ is int and 1 <= thing <= 40) or (at == 2 and thing == ())
                    self.assertIs(right_log(with_item((3, BUSY, ()), at, thing)), fits)


class PictureTest(unittest.TestCase):
    def both(self, log):
        """The picture of a log, told by plain and by quick."""
        told = plain(log)
        self.assertEqual(quick(log), told)
        self.assertIs(quick(log).__class__, tuple)
        self.assertEqual([line.__class__ for line in quick(log)], [tuple] * log[0])
        return told

    def test_a_row_of_48_colours_for_each_line(self):
        for lines in (1, 2, 39, 40):
            for doors in (BUSY, (0,) * 20, (255,) * 20):
                picture = self.both((lines, doors, ()))
                self.assertIs(picture.__class__, tuple)
                self.assertEqual([line.__class__ for line in picture], [tuple] * lines)
                self.assertEqual(picture, (tuple(colour(doors, place) for place in range(48)),) * lines)

    def test_the_ground_changes_with_the_beat_of_the_write(self):
        for line in range(3):
            for beat in range(32):
                picture = self.both((3, doors_with({2: 7}), ((line, beat, 2, 9),)))
                # In beats 0 to 7 nothing is drawn: such a write holds for the whole line.
                old = 48 * line + 2 * max(0, beat - 8)
                with self.subTest(line=line, beat=beat):
                    self.assertEqual(sum(picture, ()), (7,) * old + (9,) * (144 - old))

    def test_each_door_at_each_beat(self):
        for door in range(20):
            for beat in range(32):
                for value in (0, 2, 255):
                    log = (2, BUSY, ((0, beat, door, value),))
                    ahead, behind = BUSY, with_item(BUSY, door, value)
                    first = tuple(colour(ahead if 8 + place // 2 < beat else behind, place) for place in range(48))
                    second = tuple(colour(behind, place) for place in range(48))
                    self.assertEqual(self.both(log), (first, second))

    def test_the_blank(self):
        doors = doors_with({2: 7})
        self.assertEqual(self.both((1, doors, ((0, 9, 1, 1), (0, 11, 1, 0)))), ((7,) * 2 + (0,) * 4 + (7,) * 42,))
        self.assertEqual(self.both((1, doors, ((0, 31, 1, 255),))), ((7,) * 46 + (0,) * 2,))
        self.assertEqual(self.both((2, with_item(doors, 1, 3), ((1, 0, 1, 0),))), ((0,) * 48, (7,) * 48))

    def test_by_hand(self):
        # The wall over the whole line is moved away under the beam, and its colour is changed on the way.
        doors = doors_with({2: 1, 3: 2, 4: 255, 5: 255, 6: 255})
        log = (2, doors, ((0, 12, 3, 3), (0, 16, 5, 0), (0, 24, 4, 0), (1, 8, 3, 4), (1, 31, 6, 0)))
        first = (2,) * 8 + (3,) * 8 + (1,) * 16 + (3,) * 16
        second = (1,) * 32 + (4,) * 14 + (1,) * 2
        self.assertEqual(self.both(log), (first, second))

    def test_a_write_changes_no_place_ahead_of_its_beat(self):
        chance = random.Random(13)
        for _ in range(25):
            lines, doors, writes = chance_log(chance)
            for many in range(0, len(writes), 7):
                line, beat = writes[many][:2]
                ahead = 48 * line + 2 * max(0, beat - 8)
                whole = sum(quick((lines, doors, writes)), ())
                fewer = sum(quick((lines, doors, writes[:many])), ())
                self.assertEqual(whole[:ahead], fewer[:ahead])

    def test_writes_at_every_beat(self):
        for doors in (BUSY, (0,) * 20):
            for writes in (EACH_BEAT[:800], tuple((k // 32, k % 32, k % 19 + 1, k % 3) for k in range(800))):
                log = (26, doors, writes)
                self.assertEqual(self.both(log), drawn_by_words(log)[0])

    def test_by_chance(self):
        chance = random.Random(31)
        for k in range(150):
            log = chance_log(chance)
            with self.subTest(k):
                self.assertIs(right_log(log), True)
                self.assertEqual(self.both(log), drawn_by_words(log)[0])
                self.assertEqual(meetings_of(log), drawn_by_words(log)[1])

    def test_the_log_stays_as_it_was(self):
        log = (26, BUSY, EACH_BEAT[:800])
        kept = copy.deepcopy(log)
        for told in (plain, quick, meetings_of):
            self.assertEqual(told(log), told(log))
            self.assertEqual(log, kept)


class MeetingsOfTest(unittest.TestCase):
    # Thing one with both ends of its form, at places 10 and 17; the wall at its first end alone.
    ONE = {8: 10, 10: 0b10000001}
    WALL = {4: 0b00000100}

    def test_each_bit_alone(self):
        pairs = (
            (1, {8: 10, 9: 10, 10: 128, 11: 128}),
            (2, {8: 10, 10: 128, **self.WALL}),
            (4, {9: 10, 11: 128, **self.WALL}),
            (8, {8: 10, 10: 128, 16: 10, 17: 1}),
            (16, {9: 10, 11: 128, 16: 10, 17: 1}),
            (32, {16: 10, 17: 1, **self.WALL}),
        )
        for bit, held in pairs:
            for lines in (1, 40):
                self.assertEqual(meetings_of((lines, doors_with(held), ())), bit)
                self.assertEqual(meetings_of((lines, doors_with({**held, 1: 1}), ())), 0)
        both = {place: value for bit, held in pairs for place, value in held.items()}
        self.assertEqual(meetings_of((1, doors_with(both), ())), 63)

    def test_none(self):
        self.assertEqual(meetings_of((40, (0,) * 20, ())), 0)
        self.assertEqual(meetings_of((40, doors_with({4: 255, 5: 255, 6: 255}), ())), 0)
        self.assertEqual(meetings_of((1, doors_with({1: 5, 4: 255, 8: 1, 10: 255}), ())), 0)

    def test_places_of_several_lines_come_together(self):
        doors = doors_with({**self.ONE, **self.WALL})
        log = (3, doors, ((1, 0, 4, 0), (1, 1, 16, 17), (1, 2, 17, 1), (2, 0, 10, 0)))
        self.assertEqual(meetings_of(log), 2 + 8)

    def test_by_the_beat_of_the_write(self):
        # Place 10 is drawn in beat 13.
        for beat in range(32):
            doors = doors_with({8: 10, 10: 128})
            wanted = 2 if beat <= 13 else 0
            self.assertEqual(meetings_of((1, doors, ((0, beat, 4, 4),))), wanted)
            self.assertEqual(meetings_of((2, doors, ((1, beat, 4, 4),))), wanted)
            self.assertEqual(meetings_of((2, doors, ((0, beat, 4, 4),))), 2)
            away = (1, with_item(doors, 4, 4), ((0, beat, 4, 0),))
            self.assertEqual(meetings_of(away), 2 if beat > 13 else 0)

    def test_none_under_a_blank(self):
        doors = doors_with({8: 10, 10: 128, 4: 4})
        for blank in (1, 255):
            for beat in range(32):
                self.assertEqual(meetings_of((1, doors, ((0, beat, 1, blank),))), 2 if beat > 13 else 0)
        self.assertEqual(meetings_of((1, doors, ((0, 13, 1, 1), (0, 14, 1, 0)))), 0)
        self.assertEqual(meetings_of((1, doors, ((0, 12, 1, 1), (0, 13, 1, 0)))), 2)

    def test_none_is_cleared(self):
        doors = doors_with({8: 10, 10: 128, 4: 4})
        self.assertEqual(meetings_of((1, doors, ((0, 14, 18, 1),))), 2)
        self.assertEqual(meetings_of((3, doors, ((1, 0, 18, 1), (1, 1, 10, 0), (2, 3, 18, 0)))), 2)


if __name__ == "__main__":
    unittest.main()

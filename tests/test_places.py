import unittest

from beamrows.places import colour, meetings, shows
from tests.samples import doors_with

PLACES = range(48)
ONE, TWO, BALL, WALL = 0, 1, 2, 3


def shown(doors, shape):
    """At which places a shape shows."""
    return {place for place in PLACES if shows(doors, place)[shape]}


def meeting(one, two, ball, wall, place, more):
    """Doors with which just the told shapes show at the place."""
    held = {8: place, 9: place, 10: 128 * one, 11: 128 * two, 16: place, 17: ball}
    column = place // 2
    held[4 + column // 8] = wall * 2 ** (7 - column % 8)
    held.update(more)
    return doors_with(held)


def all_meetings():
    """Each choice of shapes, as four numbers 0 or 1."""
    return [(k // 8, k // 4 % 2, k // 2 % 2, k % 2) for k in range(16)]


class ShowsTest(unittest.TestCase):
    def test_four_truths(self):
        for value in (0, 1, 85, 255):
            for place in PLACES:
                told = shows((value,) * 20, place)
                self.assertIs(told.__class__, tuple)
                self.assertEqual([truth.__class__ for truth in told], [bool] * 4)

    def test_nothing_shows(self):
        for place in PLACES:
            self.assertEqual(shows((0,) * 20, place), (False,) * 4)

    def test_each_bit_of_the_wall(self):
        for column in range(24):
            doors = doors_with({4 + column // 8: 128 >> column % 8})
            self.assertEqual(shown(doors, WALL), {2 * column, 2 * column + 1})
            for other in (ONE, TWO, BALL):
                self.assertEqual(shown(doors, other), set())

    def test_the_walls_doors(self):
        self.assertEqual(shown(doors_with({4: 128}), WALL), {0, 1})
        self.assertEqual(shown(doors_with({4: 1}), WALL), {14, 15})
        self.assertEqual(shown(doors_with({5: 128}), WALL), {16, 17})
        self.assertEqual(shown(doors_with({6: 1}), WALL), {46, 47})
        self.assertEqual(shown(doors_with({4: 255, 6: 255}), WALL), set(range(16)) | set(range(32, 48)))
        self.assertEqual(shown(doors_with({4: 170}), WALL), {0, 1, 4, 5, 8, 9, 12, 13})

    def test_each_bit_of_a_form(self):
        for thing in (ONE, TWO):
            for bit in range(8):
                for begin in (0, 1, 20, 40, 41, 47):
                    doors = doors_with({8 + thing: begin, 10 + thing: 128 >> bit})
                    self.assertEqual(shown(doors, thing), {(begin + bit) % 48})
                    for other in {ONE, TWO, BALL, WALL} - {thing}:
                        self.assertEqual(shown(doors, other), set())

    def test_a_form_goes_round(self):
        for thing in (ONE, TWO):
            doors = doors_with({8 + thing: 44, 10 + thing: 0b11010011})
            self.assertEqual(shown(doors, thing), {44, 45, 47, 2, 3})

    def test_each_number_of_showings(self):
        begins = {0: (0,), 1: (0, 16), 2: (0, 16, 32), 3: (0, 16, 32)}
        for thing in (ONE, TWO):
            for often in (0, 1, 2, 3, 4, 5, 6, 7, 252, 253, 254, 255):
                for begin in (0, 10, 30, 46):
                    doors = doors_with({8 + thing: begin, 10 + thing: 129, 14 + thing: often})
                    told = {(begin + k + n) % 48 for k in begins[often % 4] for n in (0, 7)}
                    with self.subTest(thing=thing, often=often, begin=begin):
                        self.assertEqual(shown(doors, thing), told)

    def test_things_places_beyond_the_line(self):
        for thing in (ONE, TWO):
            for begin in (48, 49, 95, 96, 100, 200, 255):
                doors = doors_with({8 + thing: begin, 10 + thing: 0b10000001})
                self.assertEqual(shown(doors, thing), {begin % 48, (begin + 7) % 48})

    def test_widths_of_the_ball(self):
        for width in (0, 1, 2, 3, 4, 5, 6, 7, 8, 9, 48, 255):
            for begin in (0, 5, 41, 44, 47, 48, 60, 255):
                doors = doors_with({16: begin, 17: width})
                with self.subTest(width=width, begin=begin):
                    self.assertEqual(shown(doors, BALL), {(begin + k) % 48 for k in range(min(width, 8))})
                    for other in (ONE, TWO, WALL):
                        self.assertEqual(shown(doors, other), set())

    def test_other_doors_make_no_difference(self):
        held = {4: 0b10110001, 5: 3, 6: 77, 8: 3, 9: 40, 10: 0b10100101, 11: 255, 14: 1, 15: 2, 16: 46, 17: 5}
        doors = doors_with(held)
        others = {door: 255 for door in range(20) if door not in held}
        for place in PLACES:
            self.assertEqual(shows(doors_with({**held, **others}), place), shows(doors, place))

    def test_places_somewhat_beyond_are_counted_round(self):
        doors = doors_with({3: 9, 4: 0b10110001, 5: 3, 6: 77, 7: 1, 8: 3, 9: 40, 10: 0b10100101, 11: 255, 12: 5, 13: 6,
                            16: 46, 17: 5})
        for place in (-1, -2, 48, 49, 71, 72, 95, 96):
            self.assertEqual(shows(doors, place), shows(doors, place % 48))
            self.assertEqual(colour(doors, place), colour(doors, place % 48))
            self.assertEqual(meetings(doors, place), meetings(doors, place % 48))


class ColourTest(unittest.TestCase):
    COLOURS = {2: 20, 3: 30, 12: 120, 13: 130}

    def told(self, shapes, style, place):
        """The colour by the words of point 12."""
        wall = 30
        if style in (1, 3):
            wall = 120 if place < 24 else 130
        colours = {ONE: 120, TWO: 130, BALL: wall, WALL: wall}
        order = (ONE, TWO, BALL, WALL) if style in (0, 1) else (WALL, BALL, ONE, TWO)
        return [colours[shape] for shape in order if shapes[shape]] + [20]

    def test_each_style(self):
        for high in (0, 4, 252):
            for style in (0, 1, 2, 3):
                for shapes in all_meetings():
                    for place in PLACES:
                        doors = meeting(*shapes, place, {7: high + style, **self.COLOURS})
                        with self.subTest(style=high + style, shapes=shapes, place=place):
                            self.assertEqual(colour(doors, place), self.told(shapes, style, place)[0])

    def test_by_hand(self):
        cases = (
            (0, 5, (1, 1, 1, 1), 120), (0, 5, (0, 1, 1, 1), 130), (0, 5, (0, 0, 1, 0), 30), (2, 5, (1, 1, 0, 1), 30),
            (2, 5, (1, 1, 1, 0), 30), (2, 5, (1, 1, 0, 0), 120), (2, 5, (0, 1, 0, 0), 130), (1, 23, (0, 0, 0, 1), 120),
            (1, 24, (0, 0, 0, 1), 130), (1, 23, (0, 0, 1, 0), 120), (1, 24, (0, 0, 1, 0), 130),
            (3, 24, (1, 0, 0, 1), 130), (3, 23, (0, 1, 1, 0), 120), (1, 40, (0, 0, 0, 0), 20),
        )
        for style, place, shapes, told in cases:
            with self.subTest(style=style, place=place, shapes=shapes):
                self.assertEqual(colour(meeting(*shapes, place, {7: style, **self.COLOURS}), place), told)

    def test_blank(self):
        for blank in (1, 2, 128, 255):
            for style in (0, 1, 2, 3):
                for shapes in all_meetings():
                    for place in (0, 23, 24, 47):
                        doors = meeting(*shapes, place, {1: blank, 7: style, **self.COLOURS})
                        self.assertEqual(colour(doors, place), 0)

    def test_the_ground_may_hold_any_byte(self):
        for ground in (0, 1, 255):
            self.assertEqual(colour(doors_with({2: ground}), 9), ground)


class MeetingsTest(unittest.TestCase):
    def test_each_pair(self):
        for shapes, told in (((1, 1, 0, 0), 1), ((1, 0, 0, 1), 2), ((0, 1, 0, 1), 4), ((1, 0, 1, 0), 8),
                             ((0, 1, 1, 0), 16), ((0, 0, 1, 1), 32)):
            for style in (0, 1, 2, 3):
                for place in PLACES:
                    self.assertEqual(meetings(meeting(*shapes, place, {7: style}), place), told)

    def test_more_and_fewer_than_two(self):
        for shapes, told in (((0, 0, 0, 0), 0), ((1, 0, 0, 0), 0), ((0, 1, 0, 0), 0), ((0, 0, 1, 0), 0),
                             ((0, 0, 0, 1), 0), ((1, 1, 1, 0), 25), ((1, 1, 0, 1), 7), ((1, 0, 1, 1), 42),
                             ((0, 1, 1, 1), 52), ((1, 1, 1, 1), 63)):
            for place in PLACES:
                self.assertEqual(meetings(meeting(*shapes, place, {}), place), told)

    def test_nothing_meets_elsewhere(self):
        doors = meeting(1, 1, 1, 0, 10, {})
        self.assertEqual([place for place in PLACES if meetings(doors, place)], [10])

    def test_blank(self):
        for blank in (1, 2, 128, 255):
            for shapes in all_meetings():
                for place in (0, 23, 24, 47):
                    self.assertEqual(meetings(meeting(*shapes, place, {1: blank}), place), 0)


if __name__ == "__main__":
    unittest.main()

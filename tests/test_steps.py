import random
import unittest

from beamrows.deeds import number_of
from beamrows.errors import NoRoom
from beamrows.states import start
from beamrows.steps import deed_done
from tests.chance import chance_base, chance_program, chance_state
from tests.model import BEATS, IFS, row_by_words
from tests.samples import EVERY, PROGRAMS, changed, lengths_of, with_item

NAMES = ("row", "a", "x", "zero", "carry", "memory", "beats")
EDGES = (0, 1, 2, 126, 127, 128, 129, 254, 255)
MEMORY = (3, 0, 255, 1, 128, 127, 254, 2, 129, 90, 17, 33, 200, 64, 5, 9)


def alone(deed, value):
    """A program with a row ahead, that row and a go behind."""
    return (("", "rest", None), ("", deed, value), ("end", "go", "end"))


def leading(deed, here, there):
    """Rests, an if-row or a go with this number, which leads to the row with that number, and a go at the end."""
    rows = [("", "rest", None)] * 100 + [("", "go", "led")]
    rows[here] = ("", deed, "led")
    return tuple(with_item(tuple(rows), there, ("led",) + rows[there][1:]))


class RowCase(unittest.TestCase):
    def done(self, program, fields, told=0, base=0):
        """What deed_done tells of the program's row 1, or another one, from a state with these fields."""
        state = changed(start(program), **{"row": 1, "memory": MEMORY, **fields})
        answer = deed_done(program, base, state, told)
        self.assertIs(answer.__class__, tuple)
        self.assertEqual([part.__class__ for part in answer], [int] * 5 + [tuple, int])
        self.assertEqual([part.__class__ for part in answer[5]], [int] * 16)
        return dict(zip(NAMES, answer))


class DeedTest(RowCase):
    def check(self, deed, value, fields, told_fields, told=0):
        """What the deed changes is as told; all else is as it was, and the row behind is next."""
        before = {"a": 77, "x": 99, "zero": 0, "carry": 0, "memory": MEMORY, **fields}
        after = {"row": 2, **before, "beats": BEATS[deed], **told_fields}
        with self.subTest(deed=deed, value=value, fields=fields):
            self.assertEqual(self.done(alone(deed, value), before, told), after)

    def check_by_flags(self, deed, value, fields, told_fields, told=0):
        """The same by each choice of flags."""
        for zero in (0, 1):
            for carry in (0, 1):
                self.check(deed, value, {"zero": zero, "carry": carry, **fields}, told_fields, told)

    def test_set_and_setx(self):
        for n in EDGES:
            self.check_by_flags("set", n, {}, {"a": n, "zero": int(n == 0)})
            self.check_by_flags("setx", n, {}, {"x": n, "zero": int(n == 0)})

    def test_test(self):
        for a in EDGES:
            for n in EDGES:
                self.check_by_flags("test", n, {"a": a}, {"zero": int(a == n), "carry": int(a >= n)})
        self.check("test", 5, {"a": 5}, {"zero": 1, "carry": 1})
        self.check("test", 5, {"a": 4, "carry": 1}, {"zero": 0, "carry": 0})
        self.check("test", 5, {"a": 6, "zero": 1}, {"zero": 0, "carry": 1})

    def test_get_and_getx(self):
        for m in range(16):
            self.check_by_flags("get", m, {}, {"a": MEMORY[m], "zero": int(m == 1)})
            self.check_by_flags("getx", m, {}, {"x": MEMORY[m], "zero": int(m == 1)})

    def test_put_and_putx(self):
        for m in range(16):
            for byte in (0, 1, 255):
                self.check_by_flags("put", m, {"a": byte}, {"memory": with_item(MEMORY, m, byte)})
                self.check_by_flags("putx", m, {"x": byte}, {"memory": with_item(MEMORY, m, byte)})

    def test_sums(self):
        for a, held, told, zero, carry in ((254, 0, 254, 0, 0), (254, 1, 255, 0, 0), (255, 0, 255, 0, 0),
                                           (255, 1, 0, 1, 1), (128, 128, 0, 1, 1), (254, 3, 1, 0, 1),
                                           (129, 128, 1, 0, 1), (255, 255, 254, 0, 1), (0, 0, 0, 1, 0),
                                           (127, 127, 254, 0, 0), (127, 128, 255, 0, 0)):
            memory = with_item(MEMORY, 6, held)
            self.check_by_flags("add", 6, {"a": a, "memory": memory}, {"a": told, "zero": zero, "carry": carry})
        for a in EDGES:
            for m in range(16):
                total = a + MEMORY[m]
                self.check("add", m, {"a": a}, {"a": total % 256, "zero": int(total in (0, 256)),
                                                "carry": int(total > 255)})

    def test_differences(self):
        for a, held, told, zero, carry in ((5, 6, 255, 0, 0), (5, 5, 0, 1, 1), (6, 5, 1, 0, 1), (0, 1, 255, 0, 0),
                                           (0, 0, 0, 1, 1), (1, 0, 1, 0, 1), (0, 255, 1, 0, 0), (255, 0, 255, 0, 1),
                                           (127, 128, 255, 0, 0), (128, 128, 0, 1, 1), (129, 128, 1, 0, 1)):
            memory = with_item(MEMORY, 15, held)
            self.check_by_flags("sub", 15, {"a": a, "memory": memory}, {"a": told, "zero": zero, "carry": carry})

    def test_mask_and_flip(self):
        for a, held, masked, flipped in ((12, 10, 8, 6), (255, 255, 255, 0), (0, 255, 0, 255), (170, 85, 0, 255),
                                         (129, 128, 128, 1), (0, 0, 0, 0), (254, 1, 0, 255), (240, 60, 48, 204)):
            fields = {"a": a, "memory": with_item(MEMORY, 0, held)}
            self.check_by_flags("mask", 0, fields, {"a": masked, "zero": int(masked == 0)})
            self.check_by_flags("flip", 0, fields, {"a": flipped, "zero": int(flipped == 0)})

    def test_half_and_twice(self):
        halves = {0: 0, 1: 0, 2: 1, 126: 63, 127: 63, 128: 64, 129: 64, 254: 127, 255: 127}
        twices = {0: 0, 1: 2, 2: 4, 126: 252, 127: 254, 128: 0, 129: 2, 254: 252, 255: 254}
        for a in EDGES:
            self.check_by_flags("half", None, {"a": a}, {"a": halves[a], "carry": a % 2, "zero": int(a < 2)})
            self.check_by_flags("twice", None, {"a": a},
                                {"a": twices[a], "carry": int(a > 127), "zero": int(a in (0, 128))})

    def test_up_and_down(self):
        for x, up, down in ((0, 1, 255), (1, 2, 0), (127, 128, 126), (254, 255, 253), (255, 0, 254)):
            self.check_by_flags("up", None, {"x": x}, {"x": up, "zero": int(up == 0)})
            self.check_by_flags("down", None, {"x": x}, {"x": down, "zero": int(down == 0)})

    def test_tox_and_toa(self):
        for byte in EDGES:
            self.check_by_flags("tox", None, {"a": byte}, {"x": byte, "zero": int(byte == 0)})
            self.check_by_flags("toa", None, {"x": byte}, {"a": byte, "zero": int(byte == 0)})

    def test_lay_and_take_go_round(self):
        for m in range(16):
            for x in (0, 1, 15 - m, 16 - m, 15, 16, 17, 240, 255):
                place = (m + x) % 16
                for a in (0, 200):
                    self.check_by_flags("lay", m, {"x": x, "a": a}, {"memory": with_item(MEMORY, place, a)})
                self.check_by_flags("take", m, {"x": x}, {"a": MEMORY[place], "zero": int(place == 1)})
        self.check("take", 15, {"x": 1}, {"a": 3, "zero": 0})
        self.check("take", 15, {"x": 2, "carry": 1}, {"a": 0, "zero": 1})

    def test_rest_idle_wait_and_door_change_nothing(self):
        for deed, value in [("rest", None), ("idle", None), ("wait", None)] + [("door", d) for d in range(20)]:
            for a in (0, 255):
                self.check_by_flags(deed, value, {"a": a, "x": a}, {})

    def test_eye(self):
        for eye in range(6):
            for told in EDGES:
                self.check_by_flags("eye", eye, {}, {"a": told, "zero": int(told == 0)}, told)

    def test_what_is_told_matters_to_eyes_alone(self):
        for row in range(33):
            if EVERY[row][1] != "eye":
                state = changed(start(EVERY), row=row, memory=MEMORY, a=3, x=2)
                self.assertEqual(deed_done(EVERY, 7, state, 0), deed_done(EVERY, 7, state, 200))
                self.assertEqual(deed_done(EVERY, 7, state, 0), deed_done(EVERY, 7, state, None))

    def test_the_frames_parts_of_the_state_make_no_difference(self):
        for row in range(33):
            state = changed(start(EVERY), row=row, memory=MEMORY, a=3, x=2)
            other = changed(state, doors=tuple(range(20)), meetings=63, timer=77, beat=3, asked=1)
            self.assertEqual(deed_done(EVERY, 7, other, 9), deed_done(EVERY, 7, state, 9))

    def test_each_deed_that_is_done(self):
        done = {EVERY[row][1] for row in range(33)}
        self.assertEqual(sorted(number_of(deed) for deed in done), list(range(30)))


class TableTest(RowCase):
    TABLE = (("", "rest", None), ("", "at", "t"), ("end", "go", "end"), ("", "data", 1), ("t", "data", 40),
             ("", "data", 0), ("", "data", 42))

    def test_bytes_of_the_table(self):
        for zero in (0, 1):
            for carry in (0, 1):
                for x, byte in ((0, 40), (1, 0), (2, 42), (3, 0), (4, 0), (100, 0), (255, 0)):
                    told = self.done(self.TABLE, {"a": 77, "x": x, "zero": zero, "carry": carry})
                    self.assertEqual((told["row"], told["a"], told["x"]), (2, byte, x))
                    self.assertEqual((told["zero"], told["carry"], told["memory"]), (int(byte == 0), carry, MEMORY))

    def test_the_whole_byte_is_read_as_x(self):
        long = (("", "at", "t"), ("end", "go", "end"), ("t", "data", 0)) + tuple(("", "data", k) for k in range(1, 118))
        for x in range(256):
            self.assertEqual(self.done(long, {"row": 0, "x": x})["a"], x if x < 118 else 0)

    def test_beats_by_the_page(self):
        # The marked table row stands 6 behind the base.
        for base in (0, 24, 25, 26, 57, 58, 200):
            page_left = 31 - (base + 6) % 32
            for x in (0, 1, page_left - 1, page_left, page_left + 1, 32, 255):
                if x >= 0:
                    told = self.done(self.TABLE, {"x": x}, base=base)
                    with self.subTest(base=base, x=x):
                        self.assertEqual(told["beats"], 4 if x <= page_left else 5)

    def test_beats_beyond_the_last_page(self):
        # At base 247 the marked row is the byte 253: its page is the last one, and what is behind 255 is on none.
        told = [self.done(self.TABLE, {"x": x}, base=247)["beats"] for x in (0, 2, 3, 255)]
        self.assertEqual(told, [4, 4, 5, 5])


class WayTest(RowCase):
    GOING = (("ifz", {"zero": 1}, {"zero": 0}), ("ifn", {"zero": 0}, {"zero": 1}), ("ifc", {"carry": 1}, {"carry": 0}),
             ("ifd", {"carry": 0}, {"carry": 1}))

    def address(self, base, row, here):
        """Rests are one byte long, the row in question two."""
        return base + row + (1 if row > here else 0)

    def test_if_rows(self):
        here = 40
        for base in (0, 21, 22, 23, 24):
            for there in (0, 8, 10, 21, 22, 39, 40, 41, 42, 52, 53, 60, 99, 100):
                for deed, going, staying in self.GOING:
                    program = leading(deed, here, there)
                    behind, led = self.address(base, here + 1, here), self.address(base, there, here)
                    more = 0 if behind // 32 == led // 32 else 1
                    fields = {"row": here, "a": 5, "x": 0, "zero": 1, "carry": 1}
                    gone = {**fields, **going}
                    with self.subTest(base=base, there=there, deed=deed):
                        told = {**gone, "memory": MEMORY, "row": there, "beats": 3 + more}
                        self.assertEqual(self.done(program, gone, base=base), told)
                        stayed = {**fields, **staying}
                        told = {**stayed, "memory": MEMORY, "row": here + 1, "beats": 2}
                        self.assertEqual(self.done(program, stayed, base=base), told)

    def test_pages_by_hand(self):
        # The row behind row 30 is at 32, on page 1; row 30 itself at 30, on page 0.
        for there, beats in ((0, 4), (30, 4), (31, 3), (62, 3), (63, 4)):
            told = self.done(leading("ifz", 30, there), {"row": 30, "zero": 1})
            self.assertEqual((told["row"], told["beats"]), (there, beats))
            told = self.done(leading("ifz", 30, there), {"row": 30, "zero": 0})
            self.assertEqual((told["row"], told["beats"]), (31, 2))
        # Two bytes further back row 30 itself is at 32, and the row behind at 34.
        for there, beats in ((0, 4), (29, 4), (30, 3), (31, 3), (60, 3), (61, 4)):
            told = self.done(leading("ifz", 30, there), {"row": 30, "zero": 1}, base=2)
            self.assertEqual((told["row"], told["beats"]), (there, beats))

    def test_each_if_row_asks_one_flag(self):
        for zero in (0, 1):
            for carry in (0, 1):
                goes = {"ifz": zero == 1, "ifn": zero == 0, "ifc": carry == 1, "ifd": carry == 0}
                for deed in IFS:
                    told = self.done(leading(deed, 5, 9), {"row": 5, "zero": zero, "carry": carry})
                    self.assertEqual(told["row"], 9 if goes[deed] else 6)

    def test_go(self):
        for there in (0, 39, 40, 41, 99, 100):
            for zero in (0, 1):
                fields = {"row": 40, "a": 5, "x": 6, "zero": zero, "carry": 1 - zero}
                told = self.done(leading("go", 40, there), fields)
                self.assertEqual(told, {**fields, "memory": MEMORY, "row": there, "beats": 3})


class WholeTest(unittest.TestCase):
    def test_no_room(self):
        for program in PROGRAMS:
            last = 256 - sum(lengths_of(program))
            self.assertEqual(len(deed_done(program, last, start(program), 0)), 7)
            for base in (last + 1, 255):
                if base > last:
                    with self.assertRaises(NoRoom):
                        deed_done(program, base, start(program), 0)

    def test_the_base_matters_by_its_pages_alone(self):
        for row in range(33):
            for flags in ((0, 0), (1, 1)):
                state = changed(start(EVERY), row=row, zero=flags[0], carry=flags[1], x=40, memory=MEMORY)
                told = deed_done(EVERY, 0, state, 6)
                for base in (32, 64, 160):
                    self.assertEqual(deed_done(EVERY, base, state, 6), told)

    def test_by_chance(self):
        chance = random.Random(15)
        for k in range(3000):
            program = chance_program(chance, chance.choice((5, 30, 90)))
            base, state = chance_base(chance, program), chance_state(chance, program)
            told = chance.randrange(256)
            with self.subTest(k):
                self.assertEqual(deed_done(program, base, state, told), row_by_words(program, base, state, told))


if __name__ == "__main__":
    unittest.main()

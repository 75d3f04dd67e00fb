import copy
import random
import re
import unittest

from beamrows.errors import NoProgram, NoText
from beamrows.programs import check
from beamrows.texts import program_text, read_program, read_tale, tale_text
from tests.chance import chance_hands, chance_program
from tests.samples import (BRANCH, EVERY, EYES, GROUND, LEAST, LOOP, LOOPS, PROGRAMS, SELF, TIMELY, anything,
                           marked, rests, tabled)

# A row, by the words of point 37: a mark, a deed, and a number or a mark.
LINE = re.compile(r"(?:([a-z]{1,8}): )?([a-z]+)(?: (0|[1-9][0-9]{0,2})| ([a-z]{1,8}))?\n")
HANDS = re.compile(r"(0|[1-9][0-9]?) (0|[1-9][0-9]?) (0|[1-9])\n")

# Marks that are named like deeds, and rows with each of the forms that there are.
NAMED = (("set", "set", 0), ("go", "rest", None), ("wait", "wait", None), ("", "ifz", "go"), ("", "at", "data"),
         ("rest", "door", 19), ("", "eye", 5), ("x", "lay", 15), ("", "go", "set"), ("data", "data", 255),
         ("", "data", 10))
NAMED_TEXT = """set: set 0
go: rest
wait: wait
ifz go
at data
rest: door 19
eye 5
x: lay 15
go set
data: data 255
data 10
"""

SIGNS = "agosz059 :\n-+_.,~#xAZ"


def read_by_words(text):
    """The program that a text writes, or None."""
    rows, place = [], 0
    while place < len(text):
        found = LINE.match(text, place)
        if found is None:
            return None
        mark, deed, number, name = found.groups()
        rows.append((mark or "", deed, int(number) if number else name))
        place = found.end()
    try:
        check(tuple(rows))
    except NoProgram:
        return None
    return tuple(rows)


def tale_by_words(text):
    """The tale that a text writes, or None."""
    tale, place = [], 0
    while place < len(text):
        found = HANDS.match(text, place)
        if found is None:
            return None
        tale.append(tuple(int(number) for number in found.groups()))
        place = found.end()
    fits = all(one <= 15 and two <= 15 and buttons <= 3 for one, two, buttons in tale)
    return tuple(tale) if fits and len(tale) <= 40 else None


def bent_texts(text):
    """The text with a sign left out, doubled, exchanged, put in, or two signs exchanged."""
    for at in range(len(text)):
        yield text[:at] + text[at + 1:]
        yield text[:at] + text[at] + text[at:]
        yield text[:at] + text[at + 1:at + 2] + text[at] + text[at + 2:]
        for sign in SIGNS:
            yield text[:at] + sign + text[at + 1:]
            yield text[:at] + sign + text[at:]
    for sign in SIGNS:
        yield text + sign


class TextCase(unittest.TestCase):
    def no_program(self, thing):
        with self.assertRaises(NoText) as caught:
            read_program(thing)
        self.assertIs(caught.exception.__class__, NoText)

    def no_tale(self, thing):
        with self.assertRaises(NoText) as caught:
            read_tale(thing)
        self.assertIs(caught.exception.__class__, NoText)

    def judged(self, text):
        """Whether a text is that of a program, by the second writing; read or refused as it says."""
        wanted = read_by_words(text)
        if wanted is None:
            self.no_program(text)
            return False
        self.assertEqual(read_program(text), wanted)
        self.assertEqual(program_text(wanted), text)
        return True

    def judged_tale(self, text):
        wanted = tale_by_words(text)
        if wanted is None:
            self.no_tale(text)
            return False
        self.assertEqual(read_tale(text), wanted)
        self.assertEqual(tale_text(wanted), text)
        return True


class ProgramTextTest(TextCase):
    def test_by_hand(self):
        self.assertEqual(program_text(NAMED), NAMED_TEXT)
        self.assertEqual(read_program(NAMED_TEXT), NAMED)
        self.assertEqual(program_text(LEAST), "a: go a\n")
        self.assertEqual(program_text(GROUND), "a: set 9\ndoor 2\ndoor 0\nwait\ngo a\n")
        self.assertIs(program_text(NAMED).__class__, str)

    def test_read_back(self):
        more = (NAMED, BRANCH, LOOP, SELF, EYES, LOOPS, marked(120), tabled(118), rests(120))
        for program in PROGRAMS + TIMELY + more:
            kept = copy.deepcopy(program)
            text = program_text(program)
            self.assertEqual(read_program(text), program)
            self.assertIs(read_program(text).__class__, tuple)
            self.assertIs(check(read_program(text)), True)
            self.assertEqual(read_by_words(text), program)
            self.assertEqual(program_text(program), text)
            self.assertEqual(program, kept)
            self.assertEqual(text.count("\n"), len(program))
            self.assertNotIn(chr(37), text)

    def test_read_back_by_chance(self):
        chance = random.Random(37)
        for k in range(150):
            program = chance_program(chance, 60)
            with self.subTest(k):
                text = program_text(program)
                self.assertEqual(read_program(text), program)
                self.assertEqual(read_by_words(text), program)

    def test_kinds_of_what_is_read(self):
        for mark, deed, value in read_program(program_text(EVERY)):
            self.assertEqual((mark.__class__, deed.__class__), (str, str))
            self.assertIn(value.__class__, (int, str, None.__class__))

    def test_every_number(self):
        for value in range(256):
            program = (("", "set", value), ("a", "go", "a"), ("", "data", value))
            text = f"set {value}\na: go a\ndata {value}\n"
            self.assertEqual(program_text(program), text)
            self.assertEqual(read_program(text), program)


class NoProgramTest(TextCase):
    TAIL = "a: go a\nt: data 5\n"

    def test_a_sign_more_fewer_doubled_or_exchanged(self):
        held = lost = 0
        for program in (NAMED, LEAST, GROUND, (("ab", "set", 12), ("", "ifz", "b"), ("b", "go", "ab"))):
            for text in bent_texts(program_text(program)):
                if self.judged(text):
                    held += 1
                else:
                    lost += 1
        self.assertGreater(held, 200)
        self.assertGreater(lost, 5000)

    def test_words_more_fewer_doubled_or_exchanged(self):
        for program in (NAMED, EVERY):
            lines = program_text(program).split("\n")[:-1]
            for at, line in enumerate(lines):
                words = line.split(" ")
                bent = [words + ["5"], words + ["a"], words + [""], [""] + words, words[::-1], words[:-1], words[1:],
                        words * 2, ["a:"] + words, words + ["rest"], words + words[-1:], [" ".join(words) + "\n"],
                        ["", "", *words], [word + ":" for word in words], [word.upper() for word in words]]
                for other in bent:
                    self.judged("\n".join(lines[:at] + [" ".join(other)] + lines[at + 1:]) + "\n")
                self.no_program("\n".join(lines[:at] + [line + " 5 5"] + lines[at + 1:]) + "\n")

    def test_lines_more_fewer_doubled_or_exchanged(self):
        lines = NAMED_TEXT.split("\n")[:-1]
        for at in range(len(lines)):
            for other in range(len(lines)):
                swapped = list(lines)
                swapped[at], swapped[other] = swapped[other], swapped[at]
                self.judged("\n".join(swapped) + "\n")
            self.judged("\n".join(lines[:at] + lines[at + 1:]) + "\n")
            self.judged("\n".join(lines[:at + 1] + lines[at:]) + "\n")
            self.no_program("\n".join(lines[:at] + [""] + lines[at:]) + "\n")

    def test_line_ends(self):
        text = program_text(GROUND)
        self.assertEqual(read_program(text), GROUND)
        for bent in (text[:-1], text + "\n", "\n" + text, text.replace("\n", "\n\n"), text.replace("\n", " \n"),
                     text.replace("\n", "\n "), text.replace("\n", ""), text.replace("\n", " "), text + " ", text + "a",
                     " " + text, text + "rest", "\n", "\n\n", "", " ", " \n"):
            self.no_program(bent)

    def test_numbers(self):
        for number in ("+5", "-5", "-0", "+0", "05", "00", "005", "0005", " 5", "5 ", "5.", "5.0", "0x5", "5_0", "1e1",
                       "", "256", "300", "999", "1000", "-1", "--5", "5-", "5,", "five", "five5", "5a", "None", "True",
                       "a", "0" * 5000, "1" * 5000, "0" * 4999 + "5", "9" * 4301, "-" + "1" * 5000, "1" * 100000):
            self.no_program(f"set {number}\n" + self.TAIL)
            self.no_program(f"put {number}\n" + self.TAIL)
            self.no_program(f"door {number}\n" + self.TAIL)
            self.no_program(f"eye {number}\n" + self.TAIL)
            self.no_program(self.TAIL + f"data {number}\n")
            self.no_program(f"rest {number}\n" + self.TAIL)
            self.no_program(f"go {number}\n" + self.TAIL if number != "a" else f"go {number} \n" + self.TAIL)
        self.assertEqual(read_program("set 5\n" + self.TAIL)[0], ("", "set", 5))

    def test_numbers_out_of_their_bounds(self):
        for deed, greatest in (("set", 255), ("test", 255), ("setx", 255), ("get", 15), ("lay", 15), ("take", 15),
                               ("door", 19), ("eye", 5)):
            for number in range(0, greatest + 1):
                self.assertEqual(read_program(f"{deed} {number}\n" + self.TAIL)[0], ("", deed, number))
            for number in (greatest + 1, greatest + 2, 10 * greatest, 256, 1000):
                self.no_program(f"{deed} {number}\n" + self.TAIL)

    def test_marks(self):
        for mark in ("b", "abcdefgh", "zz", "go", "data", "none"):
            self.assertEqual(read_program(f"{mark}: rest\n" + self.TAIL)[0], (mark, "rest", None))
        for mark in ("", "abcdefghi", "A", "aB", "a1", "1", "a-", "a_b", " a", "a ", "a:", ":", "a: b", "~",
                     "b" * 5000):
            self.no_program(f"{mark}: rest\n" + self.TAIL)
            self.no_program(f"ifz {mark}\n" + self.TAIL)
        for line in ("b:rest", "b : rest", "b:  rest", "b rest", "b", "b:", "b: ", ":rest", "b: b: rest", "b;rest",
                     "rest b:", "rest:", "b:\nrest"):
            self.no_program(line + "\n" + self.TAIL)
        # Borne twice, or by no row, or by one of the wrong sort.
        for text in ("a: rest\n" + self.TAIL, "go b\n" + self.TAIL, "ifz t\n" + self.TAIL, "at a\n" + self.TAIL):
            self.no_program(text)

    def test_deeds(self):
        for line in ("Rest", "REST", "res", "rests", "rest rest", "nothing", "ifx a", "set", "go", "at", "door",
                     "data", "eye", "wait 0", "rest None", "rest 0", "half a", "set a", "put a", "", "None", "5",
                     "5 set", "a go"):
            self.no_program(line + "\n" + self.TAIL)

    def test_how_many_rows(self):
        self.assertEqual(len(read_program("rest\n" * 119 + "a: go a\n")), 120)
        self.no_program("rest\n" * 120 + "a: go a\n")
        self.no_program("rest\n" * 100000 + "a: go a\n")
        self.assertEqual(len(read_program("a: go a\n" + "data 0\n" * 119)), 120)
        self.no_program("a: go a\n" + "data 0\n" * 120)

    def test_what_would_be_no_program(self):
        for text in ("rest\n", "data 5\n", "data 5\na: go a\n", "a: go a\nrest\n", "a: rest\nifz a\n",
                     "a: go a\na: go a\n"):
            self.no_program(text)

    def test_anything(self):
        for k, thing in enumerate(anything()):
            kept = copy.deepcopy(thing)
            with self.subTest(k):
                self.no_program(thing)
                self.assertEqual(thing, kept)
        for program in (LEAST, GROUND, EVERY):
            for thing in (program, list(program), [program_text(program)], (program_text(program),),
                          program_text(program).split("\n"), {program_text(program): None}):
                self.no_program(thing)


class TaleTextTest(TextCase):
    TALE = ((0, 0, 0), (15, 15, 3), (1, 10, 2), (9, 0, 1))

    def test_by_hand(self):
        text = "0 0 0\n15 15 3\n1 10 2\n9 0 1\n"
        self.assertEqual(tale_text(self.TALE), text)
        self.assertEqual(read_tale(text), self.TALE)
        self.assertIs(read_tale(text).__class__, tuple)
        self.assertEqual([hands.__class__ for hands in read_tale(text)], [tuple] * 4)

    def test_the_empty_tale(self):
        self.assertEqual(tale_text(()), "")
        self.assertEqual(read_tale(""), ())
        self.assertIs(read_tale("").__class__, tuple)
        for text in ("\n", " ", "\n\n", "0", "0 0 0"):
            self.no_tale(text)

    def test_all_hands(self):
        for one in range(16):
            for two in range(16):
                for buttons in range(4):
                    text = f"{one} {two} {buttons}\n"
                    self.assertEqual(tale_text(((one, two, buttons),)), text)
                    self.assertEqual(read_tale(text), ((one, two, buttons),))

    def test_by_chance(self):
        chance = random.Random(38)
        for many in range(41):
            tale = tuple(chance_hands(chance) for _ in range(many))
            text = tale_text(tale)
            self.assertEqual(read_tale(text), tale)
            self.assertEqual(tale_by_words(text), tale)
            self.assertEqual(text.count("\n"), many)

    def test_how_many_hands(self):
        self.assertEqual(read_tale("1 2 3\n" * 40), ((1, 2, 3),) * 40)
        for many in (41, 42, 100, 50000):
            self.no_tale("1 2 3\n" * many)

    def test_hands_out_of_their_bounds(self):
        for line in ("16 0 0", "0 16 0", "0 0 4", "99 0 0", "0 99 0", "0 0 9", "0 0 15", "100 0 0", "0 0 10", "255 0 0",
                     "-1 0 0", "0 -1 0", "0 0 -1"):
            self.no_tale(line + "\n")
            self.no_tale("1 1 1\n" + line + "\n")
            self.no_tale(line + "\n1 1 1\n")

    def test_numbers(self):
        for number in ("+1", "-0", "01", "00", "001", "1.", "1.0", "", "a", "1a", "a1", "None", "True", "1_1", "0x1",
                       " ", "1" * 5000, "0" * 5000, "0" * 5000 + "1", "-" + "1" * 5000, "1" * 100000):
            for at in range(3):
                words = ["1", "2", "3"]
                words[at] = number
                self.no_tale(" ".join(words) + "\n")

    def test_words_and_blanks(self):
        for line in ("1 2", "1", "1 2 3 1", "1 2 3 ", " 1 2 3", "1  2 3", "1 2  3", "123", "1,2,3", "1 2,3",
                     "(1, 2, 3)", "1\n2\n3", "1 2\n3", "", " ", "1 2 3\n", "\n1 2 3", "one two three",
                     "a: 1 2 3", "1 2 3:"):
            self.no_tale(line + "\n")
        self.no_tale("1 2 3")
        self.no_tale("1 2 3\n1 2 3")
        self.no_tale("1 2 3 1 2 3\n")

    def test_a_sign_more_fewer_doubled_or_exchanged(self):
        held = lost = 0
        for tale in (self.TALE, ((1, 2, 3),), ((10, 11, 0), (0, 0, 0))):
            for text in bent_texts(tale_text(tale)):
                if self.judged_tale(text):
                    held += 1
                else:
                    lost += 1
        self.assertGreater(held, 50)
        self.assertGreater(lost, 500)

    def test_anything(self):
        for k, thing in enumerate(anything()):
            kept = copy.deepcopy(thing)
            with self.subTest(k):
                self.no_tale(thing)
                self.assertEqual(thing, kept)
        for thing in ((), [], {}, ((1, 2, 3),), [(1, 2, 3)], ["1 2 3\n"], ("1 2 3\n",), None, 0, 123, False):
            self.no_tale(thing)

    def test_one_is_not_the_other(self):
        self.no_program("1 2 3\n")
        self.no_tale(program_text(GROUND))


if __name__ == "__main__":
    unittest.main()

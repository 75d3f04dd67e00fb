"""Programs and tales written as texts, and read back."""

from beamrows.deeds import is_deed, kind
from beamrows.errors import NoProgram, NoText
from beamrows.programs import check

# No number of a program or a tale has more figures.
MOST_FIGURES = 3
FIGURES = "0123456789"

MOST_HANDS = 40
GREATEST_HANDS = (15, 15, 3)


def program_text(program):
    """The text of a program."""
    return "".join(row_text(row) for row in program)


def row_text(row):
    """The line of a row, with its line end."""
    mark, deed, value = row
    begin = f"{mark}: " if mark != "" else ""
    end = f" {value}" if value is not None else ""
    return f"{begin}{deed}{end}\n"


def tale_text(tale):
    """The text of a tale."""
    return "".join(f"{one} {two} {buttons}\n" for one, two, buttons in tale)


def read_program(thing):
    """The program whose text this is."""
    program = tuple([read_row(line) for line in lines_in(thing)])
    try:
        check(program)
    except NoProgram:
        raise NoText("the text is that of no program") from None
    need_same(program_text(program), thing)
    return program


def read_row(line):
    """The row of a line, which may be none that a program can have."""
    words = line.split(" ")
    mark = ""
    if words[0].endswith(":"):
        mark = words[0][:-1]
        words = words[1:]
    if not 1 <= len(words) <= 2 or not is_deed(words[0]):
        raise NoText("a line has not a deed and at most one value")
    return (mark, words[0], read_value(words[0], words[1:]))


def read_value(deed, words):
    """The value of a deed by the words behind it, one or none."""
    if words == []:
        return None
    return words[0] if kind(deed) == "mark" else read_number(words[0])


def read_number(word):
    """The number that a word writes."""
    # A longer one is too great, and perhaps too long for Python to read.
    if not 1 <= len(word) <= MOST_FIGURES or not all(sign in FIGURES for sign in word):
        raise NoText("a number has one to three figures and nothing else")
    return int(word)


def read_tale(thing):
    """The tale whose text this is."""
    tale = tuple([read_hands(line) for line in lines_in(thing)])
    if len(tale) > MOST_HANDS:
        raise NoText("a tale has at most 40 hands")
    need_same(tale_text(tale), thing)
    return tale


def read_hands(line):
    """The hands of a line."""
    hands = tuple([read_number(word) for word in line.split(" ")])
    if len(hands) != len(GREATEST_HANDS):
        raise NoText("hands are three numbers")
    for number, greatest in zip(hands, GREATEST_HANDS):
        if number > greatest:
            raise NoText("hands are 0 to 15, 0 to 15 and 0 to 3")
    return hands


def lines_in(thing):
    """The lines of anything that is a text, without their line ends."""
    if not isinstance(thing, str):
        raise NoText("it is no text")
    return thing.split("\n")[:-1]


def need_same(text, thing):
    """Refuse a text that writes what was read in another way than this one."""
    if text != thing:
        raise NoText("the text is not written as such texts are")

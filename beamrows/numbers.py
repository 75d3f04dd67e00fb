"""Programs put to numbers and read back, and programs without the names of their marks."""

from beamrows.bounds import are_bytes
from beamrows.deeds import byte_count, deed_numbered, kind, number_of
from beamrows.errors import NoNumbers, NoProgram
from beamrows.pages import addresses, need_room
from beamrows.programs import check, row_of

LETTERS = "abcdefghijklmnopqrstuvwxyz"


def numbers_of(program, base):
    """The numbers of a program at a base."""
    starts = addresses(program, base)
    numbers = []
    for mark, deed, value in program:
        sort = kind(deed)
        if sort != "table":
            numbers.append(number_of(deed))
        if sort == "mark":
            numbers.append(starts[row_of(program, value)])
        elif sort != "plain":
            numbers.append(value)
    return tuple(numbers)


def read_numbers(thing, base, code):
    """The program whose numbers at the base these are, the first code of them being no table rows."""
    if not are_bytes(thing):
        raise NoNumbers("numbers are a tuple of bytes")
    if not 0 <= code <= len(thing):
        raise NoNumbers("there are fewer bytes than the code should have")
    program = named(with_targets(code_rows(thing, code) + table_rows(thing, code), base))
    try:
        check(program)
    except NoProgram:
        raise NoNumbers("the numbers are those of no program") from None
    need_room(program, base)
    return program


def code_rows(numbers, code):
    """The rows of the first bytes, each as (how many bytes are ahead of it, deed, byte or None)."""
    rows = []
    place = 0
    while place < code:
        deed = code_deed(numbers[place])
        behind = place + byte_count(deed)
        if behind > code:
            raise NoNumbers("a row goes over the end of the code")
        value = numbers[place + 1] if byte_count(deed) == 2 else None
        rows.append((place, deed, value))
        place = behind
    return rows


def code_deed(number):
    """The deed of a row that is no table row."""
    if number >= number_of("data"):
        raise NoNumbers("a row's number is that of no deed")
    return deed_numbered(number)


def table_rows(numbers, code):
    """The rows of the bytes behind the code, each as code_rows tells it."""
    return [(place, "data", numbers[place]) for place in range(code, len(numbers))]


def with_targets(rows, base):
    """The rows as (deed, value), the value of a mark deed being the number of the row at that address."""
    row_at = {base + place: row for row, (place, deed, value) in enumerate(rows)}
    told = []
    for place, deed, value in rows:
        if kind(deed) == "mark":
            if value not in row_at:
                raise NoNumbers("a value leads to no row's address")
            told.append((deed, row_at[value]))
        else:
            told.append((deed, value))
    return told


def named(rows):
    """The program of rows as with_targets tells them, the marked rows named in their order."""
    marked = sorted({value for deed, value in rows if kind(deed) == "mark"})
    names = {row: mark_name(number) for number, row in enumerate(marked)}
    told = []
    for row, (deed, value) in enumerate(rows):
        worth = names[value] if kind(deed) == "mark" else value
        told.append((names.get(row, ""), deed, worth))
    return tuple(told)


def mark_name(number):
    """The name of a mark by its number from 0: a, b, .. z, aa, ab and so on."""
    name = ""
    left = number + 1
    while left > 0:
        # There is no letter for nothing: behind z comes aa, not ba.
        left -= 1
        name = LETTERS[left % 26] + name
        left //= 26
    return name


def bare(program):
    """The program without the names of its marks."""
    rows = []
    for mark, deed, value in program:
        rows.append((deed, row_of(program, value) if kind(deed) == "mark" else value))
    return named(rows)

"""Programs: what is one, and which rows come next in it."""

from beamrows.bounds import is_number, is_tuple_of
from beamrows.deeds import is_deed, is_if, kind
from beamrows.errors import NoProgram

MOST_ROWS = 120
LONGEST_MARK = 8

GREATEST_VALUES = {"byte": 255, "memory": 15, "door": 19, "eye": 5, "table": 255}


def check(thing):
    """True of a program; anything else is refused."""
    if not isinstance(thing, tuple) or not 1 <= len(thing) <= MOST_ROWS:
        raise NoProgram("a program is a tuple of 1 to 120 rows")
    for row in thing:
        check_row(row)
    check_order(thing)
    check_marks(thing)
    return True


def check_row(row):
    """Refuse what is no row by itself."""
    if not is_tuple_of(row, 3):
        raise NoProgram("a row is a tuple of a mark, a deed and a value")
    mark, deed, value = row
    if mark != "" and not is_mark(mark):
        raise NoProgram("a row's mark is empty or one to eight letters from a to z")
    if not is_deed(deed):
        raise NoProgram("a row has a deed that is none")
    if not is_value(deed, value):
        raise NoProgram("a row has a value that its deed does not take")


def is_mark(thing):
    """Whether anything is a mark."""
    if not isinstance(thing, str) or not 1 <= len(thing) <= LONGEST_MARK:
        return False
    return all("a" <= sign <= "z" for sign in thing)


def is_value(deed, thing):
    """Whether anything is a value for the deed."""
    sort = kind(deed)
    if sort == "plain":
        return thing is None
    if sort == "mark":
        return is_mark(thing)
    return is_number(thing, 0, GREATEST_VALUES[sort])


def check_order(rows):
    """Refuse rows of which the table rows are not the last ones, behind a go."""
    code = code_count(rows)
    for mark, deed, value in rows[:code]:
        if kind(deed) == "table":
            raise NoProgram("a table row stands ahead of another row")
    if code == 0 or rows[code - 1][1] != "go":
        raise NoProgram("the last row that is no table row is a go")


def code_count(rows):
    """How many rows are no table rows."""
    return len([deed for mark, deed, value in rows if kind(deed) != "table"])


def check_marks(rows):
    """Refuse marks that are borne twice, by no row or by a row of the wrong sort."""
    borne = {}
    for mark, deed, value in rows:
        if mark in borne:
            raise NoProgram("two rows bear one mark")
        if mark != "":
            borne[mark] = kind(deed) == "table"
    for mark, deed, value in rows:
        if kind(deed) == "mark":
            if value not in borne:
                raise NoProgram("no row bears a mark that is a value")
            if borne[value] != (deed == "at"):
                raise NoProgram("a row of the wrong sort bears a mark that is a value")


def row_of(program, mark):
    """The number of the row that bears the mark."""
    return [row[0] for row in program].index(mark)


def next_rows(program, row):
    """The numbers of the rows that can come behind this one, each once, rising."""
    # A number that no row has is answered like a table row: nothing comes next.
    if not 0 <= row < len(program):
        return []
    mark, deed, value = program[row]
    if kind(deed) == "table":
        return []
    if deed == "go":
        return [row_of(program, value)]
    if is_if(deed):
        return sorted({row + 1, row_of(program, value)})
    return [row + 1]


def is_wait(program, row):
    """Whether the row with this number is a wait."""
    return 0 <= row < len(program) and program[row][1] == "wait"


def is_door(program, row):
    """Whether the row with this number is a door row."""
    return 0 <= row < len(program) and program[row][1] == "door"

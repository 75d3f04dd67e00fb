"""Checkers of the papers that say how many beats lie between two rows at least and at most."""

from beamrows.bounds import is_number, is_tuple_of, is_whole
from beamrows.deeds import kind
from beamrows.flow import LEAST, MOST, beats_towards, flow_of, is_walk, walk_beats
from beamrows.programs import is_wait, next_rows

LONGEST_WAY = 200


def right_low(program, base, one, other, thing):
    """Whether anything is a low paper from row one to row other."""
    flow = flow_of(program, base)
    if not are_ends(program, one, other) or not is_tuple_of(thing, 3):
        return False
    return is_paper(program, flow, (one, other), LEAST, thing)


def right_high(program, base, one, other, thing):
    """Whether anything is a high paper from row one to row other."""
    flow = flow_of(program, base)
    if not are_ends(program, one, other) or not isinstance(thing, tuple):
        return False
    if len(thing) == 4 and thing[0] == "most":
        return is_paper(program, flow, (one, other), MOST, thing[1:])
    if len(thing) == 3 and thing[0] == "round":
        return is_way(program, one, other, thing[1]) and is_round(program, other, thing[1], thing[2])
    return False


def are_ends(program, one, other):
    """Whether there may be ways between the two rows."""
    return one != other and is_end(program, one) and is_end(program, other)


def is_end(program, row):
    """Whether ways may begin or end with the row."""
    return is_number(row, 0, len(program) - 1) and not is_wait(program, row) and kind(program[row][1]) != "table"


def is_paper(program, flow, ends, which, paper):
    """Whether the beats, the way and the prices are a paper of the least or the most beats."""
    beats, way, prices = paper
    one, other = ends
    if not is_whole(beats) or not is_way(program, one, other, way) or not are_prices(program, prices):
        return False
    if beats != walk_beats(flow, way, which) or prices[one] != 0 or prices[other] != beats:
        return False
    for row in range(len(program)):
        if row != other and not hold_behind(program, flow, row, which, prices):
            return False
    return True


def is_way(program, one, other, thing):
    """Whether anything is a way from row one to row other."""
    if not is_walk(program, thing, 2, LONGEST_WAY) or thing[0] != one or thing[-1] != other:
        return False
    return not any(row == other or is_wait(program, row) for row in thing[1:-1])


def are_prices(program, thing):
    """Whether anything is a tuple with an int, None or () for each row."""
    return is_tuple_of(thing, len(program)) and all(is_price(part) for part in thing)


def is_price(thing):
    """Whether anything is an int, None or ()."""
    return thing is None or is_whole(thing) or is_tuple_of(thing, 0)


def hold_behind(program, flow, row, which, prices):
    """Whether the prices of the row's next rows are such as its own one wants."""
    for follow in next_rows(program, row):
        if not is_wait(program, follow):
            beats = beats_towards(flow, row, follow)[which]
            if not holds(prices[row], prices[follow], beats, which):
                return False
    return True


def holds(price, behind, beats, which):
    """Whether a next row may have that price, so many beats behind a row with this one."""
    if price is None or behind == ():
        return True
    if price == () or behind is None:
        return False
    return behind <= price + beats if which == LEAST else behind >= price + beats


def is_round(program, other, way, thing):
    """Whether anything is a round that begins and ends with a row of the way."""
    if not is_walk(program, thing, 2, LONGEST_WAY) or thing[0] != thing[-1] or thing[0] not in way:
        return False
    return not any(row == other or is_wait(program, row) for row in thing)

"""The flow of a program at a base: where rows lead, and how many beats they can take towards there."""

from beamrows.bounds import is_number
from beamrows.deeds import beat_count, is_if, kind
from beamrows.pages import page_signs
from beamrows.programs import next_rows, row_of

# Which of the two numbers that beats_towards tells.
LEAST = 0
MOST = 1


def flow_of(program, base):
    """For each row (deed, value, number of the row that bears the value or None, page sign)."""
    signs = page_signs(program, base)
    flow = []
    for row, (mark, deed, value) in enumerate(program):
        led = row_of(program, value) if kind(deed) == "mark" else None
        flow.append((deed, value, led, signs[row]))
    return flow


def going_beats(deed, sign):
    """The beats of an if-row that goes to its mark."""
    return beat_count(deed) + 1 + sign


def beats_for(deed, sign, low, high):
    """The least and the most beats of a row that is no if-row, for x from low to high."""
    beats = beat_count(deed)
    if deed == "at":
        signs = sign[low:high + 1]
        return (beats + min(signs), beats + max(signs))
    return (beats, beats)


def beats_towards(flow, row, follow):
    """The least and the most beats that the row can take towards one of its next rows, whatever x is."""
    deed, value, led, sign = flow[row]
    if not is_if(deed):
        return beats_for(deed, sign, 0, 255)
    ways = []
    if follow == row + 1:
        ways.append(beat_count(deed))
    if follow == led:
        ways.append(going_beats(deed, sign))
    return (min(ways), max(ways))


def is_walk(program, thing, fewest, most):
    """Whether anything is a tuple of so many rows' numbers, each one of the next rows of the one ahead."""
    if not isinstance(thing, tuple) or not fewest <= len(thing) <= most:
        return False
    if not all(is_number(row, 0, len(program) - 1) for row in thing):
        return False
    return all(follow in next_rows(program, row) for row, follow in zip(thing, thing[1:]))


def walk_beats(flow, walk, which):
    """The least or the most beats of all rows of a walk but the last."""
    return sum(beats_towards(flow, row, follow)[which] for row, follow in zip(walk, walk[1:]))

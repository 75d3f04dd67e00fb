"""What comes of a row that is done: of x, of what the zero flag says of it, and of the beats."""

from beamrows.deeds import beat_count, is_if
from beamrows.flow import beats_for, going_beats

MOST_X = 255

# Behind these the zero flag is 1 just where x is 0; behind those it is as it was.
TELLS_OF_X = ("setx", "getx", "up", "down", "tox", "toa")
KEEPS_ZERO = ("put", "putx", "lay", "rest", "idle", "go", "ifz", "ifn", "ifc", "ifd", "door", "wait")


def outcomes(flow, row, low, high, zero):
    """For each way on (next row, low, high, zero, least beats, most beats)."""
    deed, value, led, sign = flow[row]
    if is_if(deed):
        return if_outcomes(flow, row, low, high, zero)
    follow = led if deed == "go" else row + 1
    least, most = beats_for(deed, sign, low, high)
    behind = zero_behind(deed, zero)
    return [(follow, first, last, behind, least, most) for first, last in x_behind(deed, value, low, high)]


def if_outcomes(flow, row, low, high, zero):
    """The same of an if-row: the way to the row behind, and the way to its mark."""
    deed, value, led, sign = flow[row]
    told = []
    beats = beat_count(deed)
    for first, last in x_by_zero(low, high, zero, deed, deed == "ifn"):
        told.append((row + 1, first, last, zero, beats, beats))
    beats = going_beats(deed, sign)
    for first, last in x_by_zero(low, high, zero, deed, deed == "ifz"):
        told.append((led, first, last, zero, beats, beats))
    return told


def x_by_zero(low, high, zero, deed, wants_zero):
    """Which x an if-row takes a way with, one that wants the zero flag to be 1 or to be 0, in a list of none or one."""
    # Where the flag says nothing of x, or is not asked, each x can go each way.
    if zero == 0 or deed not in ("ifz", "ifn"):
        return [(low, high)]
    if wants_zero:
        return [(0, 0)] if low == 0 else []
    return [(max(low, 1), high)] if high > 0 else []


def x_behind(deed, value, low, high):
    """The x behind a row that is no if-row, in one part or two."""
    match deed:
        case "setx":
            return [(value, value)]
        case "getx" | "tox":
            return [(0, MOST_X)]
        case "up":
            return up_behind(low, high)
        case "down":
            return down_behind(low, high)
    return [(low, high)]


def up_behind(low, high):
    """Each x one more; the greatest one goes round."""
    parts = [(low + 1, min(high + 1, MOST_X))] if low < MOST_X else []
    return parts + [(0, 0)] if high == MOST_X else parts


def down_behind(low, high):
    """Each x one less; 0 goes round."""
    parts = [(max(low - 1, 0), high - 1)] if high > 0 else []
    return parts + [(MOST_X, MOST_X)] if low == 0 else parts


def zero_behind(deed, zero):
    """Whether the zero flag speaks of x behind a row."""
    if deed in TELLS_OF_X:
        return 1
    return zero if deed in KEEPS_ZERO else 0


def comes_of(flow, row, cell):
    """For each way on (next row, cell), the beats of the cell perhaps too many for one."""
    low, high, zero, early, late = cell
    told = []
    for follow, first, last, behind, least, most in outcomes(flow, row, low, high, zero):
        if flow[row][0] == "wait":
            told.append((follow, (first, last, behind, 0, 0)))
        else:
            told.append((follow, (first, last, behind, early + least, late + most)))
    return told

"""Whether a program is in time: its least cells, or a way that is late."""

from beamrows.cells import LAST_BEGIN, MOST_CELLS
from beamrows.errors import NoFrame, TooMany
from beamrows.flow import flow_of
from beamrows.outcomes import comes_of, outcomes
from beamrows.runs import is_in_time, run

KEPT = "kept"
LATE = "late"

# The row, low, high and zero from which all others come.
FIRST_SPAN = (0, 0, 0, 1)


def times_of(program, base):
    """("kept", the least cells) or ("late", a late way)."""
    flow = flow_of(program, base)
    need_few_spans(flow)
    # By row, low, high and zero: early, late, and a way from a line's first row that takes so many beats.
    times = {FIRST_SPAN: (0, 0, (0,))}
    work = [FIRST_SPAN]
    while work:
        span = work.pop()
        behind = times_behind(flow, span, times[span])
        for new, time in behind:
            if time[1] > LAST_BEGIN:
                return (LATE, time[2])
            joined = joined_times(times.get(new, time), time)
            if new not in times or joined[:2] != times[new][:2]:
                times[new] = joined
                work.append(new)
    return (KEPT, cells_of(flow, times))


def need_few_spans(flow):
    """Refuse a flow with which too many cells come up; that hangs on no beats."""
    seen = {FIRST_SPAN: True}
    work = [FIRST_SPAN]
    while work:
        row, low, high, zero = work.pop()
        for outcome in outcomes(flow, row, low, high, zero):
            new = outcome[:4]
            if new not in seen:
                seen[new] = True
                work.append(new)
        if len(seen) > MOST_CELLS:
            raise TooMany("more than 3000 cells come up")


def times_behind(flow, span, time):
    """For each way on (row, low, high and zero, time)."""
    row, low, high, zero = span
    early, late, way = time
    told = []
    for follow, cell in comes_of(flow, row, (low, high, zero, early, late)):
        # Behind a wait another line is counted.
        ahead = () if flow[row][0] == "wait" else way
        told.append(((follow,) + cell[:3], cell[3:] + (ahead + (follow,),)))
    return told


def joined_times(one, other):
    """The lesser early and the greater late, with the way of the latter."""
    later = other if other[1] > one[1] else one
    return (min(one[0], other[0]), later[1], later[2])


def cells_of(flow, times):
    """The cells of all rows, in order."""
    entries = [[] for row in flow]
    for row, low, high, zero in times:
        early, late, way = times[(row, low, high, zero)]
        entries[row].append((low, high, zero, early, late))
    return tuple([tuple(sorted(entry)) for entry in entries])


def judge(program, base, tales, frames):
    """("kept", cells), or ("late", way, the number of the first tale whose run is not in time, or None)."""
    told = times_of(program, base)
    if told[0] == KEPT:
        return told
    for number, tale in enumerate(tales):
        if is_late_run(program, base, tale, frames):
            return told + (number,)
    return told + (None,)


def is_late_run(program, base, tale, frames):
    """Whether the run is played without a refusal, and not in time."""
    try:
        played = run(program, base, tale, frames)
    except NoFrame:
        return False
    return not is_in_time(program, [rows for picture, log, rows, state in played])

"""How many lines each frame of a program has, told with a paper."""

from beamrows.beam import MOST_LINES
from beamrows.cells import MOST_CELLS
from beamrows.errors import NotWhole, TooMany
from beamrows.flow import flow_of
from beamrows.times import LATE, times_of
from beamrows.whole import FIRST_ENTRY, entries_behind


def lines_of(program, base):
    """(lines, the least lines paper)."""
    if times_of(program, base)[0] == LATE:
        raise NotWhole("a line takes more than its beats")
    flow = flow_of(program, base)
    paper = least_entries(flow)
    return (line_count(flow, paper), paper)


def least_entries(flow):
    """For each row the entries that come up, in order."""
    entries = [{} for row in flow]
    entries[0][FIRST_ENTRY] = True
    work = [(0, FIRST_ENTRY)]
    many = 1
    while work:
        row, entry = work.pop()
        for follow, outcome in outcomes_in_frame(flow, row, entry):
            if outcome not in entries[follow]:
                entries[follow][outcome] = True
                work.append((follow, outcome))
                many += 1
        if many > MOST_CELLS:
            raise TooMany("more than 3000 entries come up")
    return tuple([tuple(sorted(found)) for found in entries])


def outcomes_in_frame(flow, row, entry):
    """For each way on (next row, entry); nothing comes of a wait behind which no line is left."""
    return [] if is_lost(flow, row, entry) else entries_behind(flow, row, entry)


def is_lost(flow, row, entry):
    """Whether it is a wait in the last line there can be, and no end is asked for."""
    asked, line = entry[3:]
    return flow[row][0] == "wait" and asked == 0 and line == MOST_LINES - 1


def line_count(flow, paper):
    """How many lines each frame has by the least entries, or NotWhole."""
    waiting = []
    for row, entries in enumerate(paper):
        if flow[row][0] == "wait":
            waiting += [entry[3:] for entry in entries]
    ends = sorted({line for asked, line in waiting if asked == 1})
    if len(ends) != 1:
        raise NotWhole("no frame ends, or not all frames have as many lines")
    if (0, MOST_LINES - 1) in waiting:
        raise NotWhole("a frame may have too many lines")
    return ends[0] + 1

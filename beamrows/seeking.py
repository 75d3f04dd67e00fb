"""The least and the most beats from one row to another, each told with a paper."""

from beamrows.errors import NoSpan
from beamrows.flow import LEAST, MOST, beats_towards, flow_of
from beamrows.programs import is_wait, next_rows
from beamrows.spans import are_ends


def span(program, base, one, other):
    """(low paper, high paper) of the ways from row one to row other."""
    flow = flow_of(program, base)
    if not are_ends(program, one, other):
        raise NoSpan("a way leads between two unlike rows that are neither waits nor table rows")
    steps = free_steps(program, other)
    reached = rows_from(steps, one)
    if other not in reached:
        raise NoSpan("no way leads from the one row to the other")
    steps = steps_between(steps, reached, rows_from(turned(steps), other))
    low = priced(program, best_beats(flow, steps, one, LEAST), reached, other)
    rounded = way_with_round(steps, one, other)
    if rounded is not None:
        return (low, ("round",) + rounded)
    return (low, ("most",) + priced(program, best_beats(flow, steps, one, MOST), reached, other))


def free_steps(program, other):
    """For each row, in a list, the next rows with which a way to row other can go on from it."""
    steps = []
    for row in range(len(program)):
        follows = [] if row == other else next_rows(program, row)
        steps.append([follow for follow in follows if not is_wait(program, follow)])
    return steps


def turned(steps):
    """The same steps, each the other way about."""
    told = [[] for row in steps]
    for row, follows in enumerate(steps):
        for follow in follows:
            told[follow].append(row)
    return told


def rows_from(steps, begin):
    """The rows that are come to from a row, that one too, as the keys of a dict."""
    found = {begin: True}
    work = [begin]
    while work:
        row = work.pop()
        for follow in steps[row]:
            if follow not in found:
                found[follow] = True
                work.append(follow)
    return found


def steps_between(steps, reached, leading):
    """Those of the steps that are on some way: come to from its begin, and leading to its end."""
    told = []
    for row, follows in enumerate(steps):
        told.append([follow for follow in follows if row in reached and follow in leading])
    return told


def best_beats(flow, steps, one, which):
    """By row (the least or the most beats from row one on, the row ahead on such a way)."""
    known = []
    for row, follows in enumerate(steps):
        known += [(row, follow, beats_towards(flow, row, follow)[which]) for follow in follows]
    best = {one: (0, None)}
    changed = True
    while changed:
        changed = False
        for row, follow, beats in known:
            if row in best and is_better(best[row][0] + beats, best.get(follow), which):
                best[follow] = (best[row][0] + beats, row)
                changed = True
    return best


def is_better(beats, known, which):
    """Whether so many beats are fewer, or more, than those known of a row, if any are."""
    if known is None:
        return True
    return beats < known[0] if which == LEAST else beats > known[0]


def priced(program, best, reached, other):
    """(beats, way, prices) by the best beats of the rows between."""
    prices = [price(best, reached, row) for row in range(len(program))]
    return (best[other][0], way_to(best, other), tuple(prices))


def price(best, reached, row):
    """The best beats of a row; () where it does not lead to the end, None where it is not come to."""
    if row in best:
        return best[row][0]
    return () if row in reached else None


def way_to(best, other):
    """The way to row other by the rows ahead."""
    way = []
    row = other
    while row is not None:
        way.append(row)
        row = best[row][1]
    return tuple(reversed(way))


def way_with_round(steps, one, other):
    """(way, a round that begins on it), or None where none of the ways has one."""
    best = None
    for row in range(len(steps)):
        turn = shortest_walk(steps, row, row)
        if turn is not None:
            ahead = () if row == one else shortest_walk(steps, one, row)[:-1]
            way = ahead + shortest_walk(steps, row, other)
            # The shortest of all has no row twice, for that row were on a round with a shorter way: so it is no
            # longer than the program, while others may be longer than a paper's way.
            if best is None or len(way) < len(best[0]):
                best = (way, turn)
    return best


def shortest_walk(steps, begin, end):
    """The rows from begin to end with at least one step and as few as there can be, or None."""
    ahead = {}
    work = [begin]
    place = 0
    while place < len(work) and end not in ahead:
        row = work[place]
        place += 1
        for follow in steps[row]:
            if follow not in ahead:
                ahead[follow] = row
                work.append(follow)
    if end not in ahead:
        return None
    walk = [end, ahead[end]]
    while walk[-1] != begin:
        walk.append(ahead[walk[-1]])
    return tuple(reversed(walk))

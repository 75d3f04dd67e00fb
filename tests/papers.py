"""Papers by the words of points 22 to 33, written apart from the program, to hold it against."""

import functools

from tests.model import BEATS, IFS, marked, other_page, place_of

AS_IT_WAS = "put putx lay rest idle go ifz ifn ifc ifd door wait".split()
OF_X = "setx getx up down tox toa".split()


def is_table(program, row):
    return program[row][1] == "data"


def is_wait(program, row):
    return program[row][1] == "wait"


def led(program, row):
    """The row to which a mark deed leads."""
    return marked(program, program[row][2])


def ways_on(program, base, row):
    """Each way on from a row: (next row, beats for each x, whether it goes to its mark)."""
    deed = program[row][1]
    if deed == "data":
        return []
    if deed == "go":
        return [(led(program, row), [3] * 256, False)]
    if deed in IFS:
        there = led(program, row)
        sign = other_page(place_of(program, base, row + 1), place_of(program, base, there))
        return [(row + 1, [2] * 256, False), (there, [3 + sign] * 256, True)]
    if deed == "at":
        table = place_of(program, base, led(program, row))
        return [(row + 1, [4 + other_page(table, table + x) for x in range(256)], False)]
    return [(row + 1, [BEATS[deed]] * 256, False)]


@functools.lru_cache(maxsize=8)
def beats_between(program, base):
    """For each row and next row of it the least and the most beats."""
    told = {}
    for row in range(len(program)):
        for follow, beats, going in ways_on(program, base, row):
            told.setdefault((row, follow), []).extend(beats)
    return {step: (min(beats), max(beats)) for step, beats in told.items()}


def x_parts(deed, value, xs):
    """The x behind a row, as lists, each without a gap."""
    if deed == "setx":
        return [[value]]
    if deed in ("getx", "tox"):
        return [list(range(256))]
    if deed in ("up", "down"):
        step = 1 if deed == "up" else -1
        straight = [x + step for x in xs if 0 <= x + step <= 255]
        turned = [(x + step) % 256 for x in xs if not 0 <= x + step <= 255]
        return [part for part in (straight, turned) if part]
    return [xs]


def comes(program, base, row, cell):
    """What comes of a cell: a list of (next row, cell)."""
    low, high, zero, early, late = cell
    mark, deed, value = program[row]
    told = []
    for follow, beats, going in ways_on(program, base, row):
        xs = list(range(low, high + 1))
        if zero == 1 and deed in ("ifz", "ifn"):
            # The flag is 1 just where x is 0, so which way is gone tells of x.
            wanted = going if deed == "ifz" else not going
            xs = [x for x in xs if (x == 0) == wanted]
        if not xs:
            continue
        taken = [beats[x] for x in xs]
        flag = 1 if deed in OF_X else zero if deed in AS_IT_WAS else 0
        times = (0, 0) if deed == "wait" else (early + min(taken), late + max(taken))
        told += [(follow, (part[0], part[-1], flag) + times) for part in x_parts(deed, value, xs)]
    return told


def within(cell, other):
    """Whether a cell is within another one of the same row."""
    return (set(range(cell[0], cell[1] + 1)) <= set(range(other[0], other[1] + 1)) and cell[2] >= other[2]
            and set(range(cell[3], cell[4] + 1)) <= set(range(other[3], other[4] + 1)))


def keeps(program, base, cells):
    """Whether cells, which are such by their form, keep in time."""
    wanted = [(0, (0, 0, 1, 0, 0))]
    for row, entry in enumerate(cells):
        for cell in entry:
            wanted += comes(program, base, row, cell)
    return all(cell[4] <= 30 and any(within(cell, other) for other in cells[row]) for row, cell in wanted)


def spans_of(program, base, most=10 ** 9):
    """Each (row, low, high, zero) that comes up, till they are more than so many."""
    found, fresh = set(), {(0, 0, 0, 1)}
    while fresh and len(found) <= most:
        found |= fresh
        reached = {(follow,) + cell[:3] for row, *span in fresh for follow, cell in comes(program, base, row, (*span, 0, 0))}
        fresh = reached - found
    return found


def least_cells(program, base, most=3000, seeds=()):
    """The least cells, by going over all of them again and again; None where a late is above 30, or they are many.

    Seeds are ((row, low, high, zero), (early, late)) that are to be among them, or wider there.
    """
    cells = {(0, 0, 0, 1): (0, 0), **dict(seeds)}
    while len(cells) <= most:
        new = dict(cells)
        for (row, *span), times in cells.items():
            for follow, cell in comes(program, base, row, (*span, *times)):
                if cell[4] > 30:
                    return None
                early, late = new.get((follow,) + cell[:3], cell[3:])
                new[(follow,) + cell[:3]] = (min(early, cell[3]), max(late, cell[4]))
        if new == cells:
            return tuple(tuple(sorted((*key[1:], *times) for key, times in cells.items() if key[0] == row))
                         for row in range(len(program)))
        cells = new
    return None


def next_of(program, base):
    """The next rows of each row."""
    told = {row: [] for row in range(len(program))}
    for row, follow in sorted(beats_between(program, base)):
        told[row].append(follow)
    return told


def leads_to(program, base, other):
    """The rows from which other is come to, by no wait in between."""
    found, steps = {other}, list(beats_between(program, base))
    while True:
        more = {row for row, follow in steps
                if follow in found and not (is_wait(program, follow) or row == other)}
        if more <= found:
            return found
        found |= more


def come_to(program, base, one, other):
    """The rows that are come to from row one, by no wait and not over other."""
    follows = next_of(program, base)
    found, fresh = set(), {one}
    while fresh:
        found |= fresh
        fresh = {follow for row in fresh if row != other for follow in follows[row]
                 if not is_wait(program, follow)} - found
    return found


def free_of(program, base, other):
    """The next rows of each row that are no waits, and none of row other."""
    return {row: [there for there in rows if not is_wait(program, there)] if row != other else []
            for row, rows in next_of(program, base).items()}


def all_ways(program, base, one, other, longest=12):
    """Each way of up to so many rows."""
    follows, ways, done = free_of(program, base, other), [(one,)], []
    for _ in range(longest - 1):
        ways = [way + (there,) for way in ways for there in follows[way[-1]]]
        done += [way for way in ways if way[-1] == other]
        ways = [way for way in ways if way[-1] != other]
    return done


def best_ways(program, base, one, other, which):
    """The best ways from row one to the rows between it and other; None where they get better for ever."""
    beats = beats_between(program, base)
    between = come_to(program, base, one, other) & leads_to(program, base, other)
    steps = [(row, follow) for row, follow in beats if row in between - {other} and follow in between]
    ways = {one: (0, (one,))}
    for _ in range(len(program) + 1):
        better = {}
        for row, follow in steps:
            if row in ways:
                total = ways[row][0] + beats[row, follow][which]
                known = better.get(follow, ways.get(follow))
                if known is None or (total > known[0] if which else total < known[0]):
                    better[follow] = (total, ways[row][1] + (follow,))
        if not better:
            return ways
        ways.update(better)
    return None


def paper_of(program, base, one, other, which):
    """(beats, way, prices) of the least (0) or the most (1) beats; None where there is none."""
    ways = best_ways(program, base, one, other, which)
    if ways is None or other not in ways:
        return None
    reached = come_to(program, base, one, other)
    prices = [ways[row][0] if row in ways else () if row in reached else None for row in range(len(program))]
    return (ways[other][0], ways[other][1], tuple(prices))


def is_priced(program, base, one, other, which, paper):
    """Whether (beats, way, prices), right by their kinds, are a paper of the least (0) or the most (1) beats."""
    total, way, prices = paper
    beats, follows = beats_between(program, base), next_of(program, base)
    steps = list(zip(way, way[1:]))
    if not 2 <= len(way) <= 200 or way[0] != one or way[-1] != other or any(step not in beats for step in steps):
        return False
    if any(row == other or is_wait(program, row) for row in way[1:-1]):
        return False
    if total != sum(beats[step][which] for step in steps) or prices[one] != 0 or prices[other] != total:
        return False
    for row, price in enumerate(prices):
        for follow in follows[row]:
            behind = prices[follow]
            if is_wait(program, follow) or row == other or price is None or behind == ():
                continue
            if price == () or behind is None:
                return False
            bound = price + beats[row, follow][which]
            if (behind < bound) if which else (behind > bound):
                return False
    return True


def lines_behind(program, base, row, entry):
    """What comes of an entry of a lines paper: a list of (next row, entry), a wait with asked 1 whatever its line."""
    low, high, zero, asked, line = entry
    mark, deed, value = program[row]
    if deed == "wait":
        asked, line = 0, 0 if asked else line + 1
    if (deed, value) == ("door", 0):
        asked = 1
    return [(follow, cell[:3] + (asked, line)) for follow, cell in comes(program, base, row, (low, high, zero, 0, 0))]


def is_lost(program, row, entry):
    """Whether it is a wait in line 39 with no end asked for."""
    return is_wait(program, row) and entry[3:] == (0, 39)


def entries_of(program, base, most=10 ** 9):
    """Each (row, entry) that comes up, till they are more than so many."""
    found, fresh = set(), {(0, (0, 0, 1, 0, 0))}
    while fresh and len(found) <= most:
        found |= fresh
        reached = {new for row, entry in fresh if not is_lost(program, row, entry)
                   for new in lines_behind(program, base, row, entry)}
        fresh = reached - found
    return found


def lines_paper(program, found):
    """The paper of entries that came up."""
    return tuple(tuple(sorted(entry for at, entry in found if at == row)) for row in range(len(program)))


def line_count(program, found):
    """The lines of each frame by the entries that came up, or None where they are not told as whole."""
    ends = {entry[4] for row, entry in found if is_wait(program, row) and entry[3] == 1}
    if len(ends) != 1 or any(is_lost(program, row, entry) for row, entry in found):
        return None
    return ends.pop() + 1


def counts(program, base, lines, paper):
    """Whether a lines paper, which is one by its form, holds for so many lines."""
    wanted = [(0, (0, 0, 1, 0, 0))]
    for row, entries in enumerate(paper):
        for entry in entries:
            asked, line = entry[3:]
            if is_wait(program, row) and not (line == lines - 1 if asked else line + 1 < lines):
                return False
            wanted += lines_behind(program, base, row, entry)
    return all(any(entry[3:] == other[3:] and within(entry[:3] + (0, 0), other[:3] + (0, 0)) for other in paper[row])
               for row, entry in wanted)

"""Logs, and the pictures that are read off them."""

from beamrows.beam import LINE_BEATS, MOST_LINES, beat_of, places_between, with_door
from beamrows.bounds import are_so_many_bytes, is_byte, is_number, is_tuple_of
from beamrows.places import DOOR_COUNT, LINE_PLACES, colour, meetings

MOST_WRITES = 800


def right_log(thing):
    """Whether anything is a log."""
    if not is_tuple_of(thing, 3):
        return False
    lines, doors, writes = thing
    if not is_number(lines, 1, MOST_LINES) or not are_so_many_bytes(doors, DOOR_COUNT):
        return False
    if not isinstance(writes, tuple) or len(writes) > MOST_WRITES:
        return False
    return all(is_write(part, lines) for part in writes) and are_in_order(writes)


def is_write(thing, lines):
    """Whether anything is a write in a log of so many lines."""
    if not is_tuple_of(thing, 4):
        return False
    line, beat, door, value = thing
    if not is_number(line, 0, lines - 1) or not is_number(beat, 0, LINE_BEATS - 1):
        return False
    return is_number(door, 0, DOOR_COUNT - 1) and is_byte(value)


def are_in_order(writes):
    """Whether each write holds from a later beat on than the one ahead of it."""
    spots = [(line, beat) for line, beat, door, value in writes]
    return all(one < other for one, other in zip(spots, spots[1:]))


def plain(log):
    """The picture of a log, place by place."""
    return tuple([plain_line(log, line) for line in range(log[0])])


def plain_line(log, line):
    """The colours of one line, each read off the whole log."""
    return tuple([colour(doors_in(log, line, beat_of(place)), place) for place in range(LINE_PLACES)])


def doors_in(log, line, beat):
    """What the doors hold in a beat, by the writes from the first one on."""
    lines, doors, writes = log
    held = list(doors)
    for at_line, at_beat, door, value in writes:
        if (at_line, at_beat) > (line, beat):
            break
        held[door] = value
    return tuple(held)


def quick(log):
    """The picture of a log, by stretches between two writes."""
    drawn = [[] for line in range(log[0])]
    # Lines with the same doors are alike, and most lines are like the one above.
    known = {}
    for line, first, behind, doors in stretches(log):
        key = (first, behind, doors)
        if key not in known:
            known[key] = [colour(doors, place) for place in places_between(first, behind)]
        drawn[line].extend(known[key])
    return tuple([tuple(colours) for colours in drawn])


def stretches(log):
    """Where the doors stay as they are: (line, first beat, beat behind, doors), in order, none over a line's end."""
    lines, doors, writes = log
    told = []
    held = doors
    line = beat = 0
    for at_line, at_beat, door, value in writes:
        told += stretches_until(line, beat, at_line, at_beat, held)
        held = with_door(held, door, value)
        line, beat = at_line, at_beat
    return told + stretches_until(line, beat, lines, 0, held)


def stretches_until(line, beat, last_line, last_beat, doors):
    """The stretches from a beat up to another one, of the same line or a later one."""
    told = []
    first = beat
    for here in range(line, last_line):
        told.append((here, first, LINE_BEATS, doors))
        first = 0
    if first < last_beat:
        told.append((last_line, first, last_beat, doors))
    return told


def meetings_of(log):
    """The meetings of all places of a log together."""
    met = 0
    for line, first, behind, doors in stretches(log):
        for place in places_between(first, behind):
            met |= meetings(doors, place)
    return met

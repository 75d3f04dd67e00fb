"""The beats of a line: which places the beam draws in them, and what a write makes of the doors."""

LINE_BEATS = 32
MOST_LINES = 40
# In the beats ahead of this one the beam comes back to the line's begin and draws nothing.
FIRST_DRAWN = 8
BEAT_PLACES = 2


def beat_of(place):
    """The beat in which the place is drawn."""
    return FIRST_DRAWN + place // BEAT_PLACES


def places_ahead(beat):
    """How many places of the line are drawn ahead of the beat."""
    return BEAT_PLACES * max(0, beat - FIRST_DRAWN)


def places_between(first, behind):
    """The places that are drawn from the first beat on, ahead of the one behind."""
    return list(range(places_ahead(first), places_ahead(behind)))


def with_door(doors, door, byte):
    """The doors where one of them holds another byte."""
    return doors[:door] + (byte,) + doors[door + 1:]

"""What the beam draws at one place, by what the doors hold."""

BLANK = 1
GROUND = 2
WALL_COLOUR = 3
WALL = 4
STYLE = 7
THING_PLACES = 8
FORMS = 10
THING_COLOURS = 12
SHOWINGS = 14
BALL_PLACE = 16
BALL_WIDTH = 17
DOOR_COUNT = 20

LINE_PLACES = 48
SHOWING_DISTANCE = 16
WIDEST_BALL = 8
FORM_WIDTH = 8

ONE_FIRST = (0, 1, 2, 3)
WALL_FIRST = (3, 2, 0, 1)

# Which two of thing one, thing two, ball and wall meet, and the bit that says so.
PAIRS = ((0, 1, 1), (0, 3, 2), (1, 3, 4), (0, 2, 8), (1, 2, 16), (2, 3, 32))


def shows(doors, place):
    """Whether thing one, thing two, the ball and the wall show at the place."""
    return (
        thing_shows(doors, 0, place),
        thing_shows(doors, 1, place),
        ball_shows(doors, place),
        wall_shows(doors, place),
    )


def thing_shows(doors, thing, place):
    """Whether thing one (0) or two (1) shows at the place."""
    for k in range(doors[SHOWINGS + thing] % 4 + 1):
        column = (place - doors[THING_PLACES + thing] - SHOWING_DISTANCE * k) % LINE_PLACES
        if column < FORM_WIDTH and has_bit(doors[FORMS + thing], column):
            return True
    return False


def ball_shows(doors, place):
    """Whether the ball shows at the place."""
    return (place - doors[BALL_PLACE]) % LINE_PLACES < min(doors[BALL_WIDTH], WIDEST_BALL)


def wall_shows(doors, place):
    """Whether the wall shows at the place."""
    column = place % LINE_PLACES // 2
    return has_bit(doors[WALL + column // 8], column % 8)


def has_bit(byte, column):
    """Whether the byte's bit is 1, the greatest bit being column 0."""
    return (byte >> (7 - column)) & 1 == 1


def colour(doors, place):
    """The colour of the place."""
    if doors[BLANK] != 0:
        return 0
    seen = shows(doors, place)
    order = WALL_FIRST if doors[STYLE] // 2 % 2 == 1 else ONE_FIRST
    for shape in order:
        if seen[shape]:
            return shape_colour(doors, shape, place)
    return doors[GROUND]


def shape_colour(doors, shape, place):
    """The colour in which a thing (0, 1), the ball (2) or the wall (3) shows at the place."""
    if shape < 2:
        return doors[THING_COLOURS + shape]
    if doors[STYLE] % 2 == 0:
        return doors[WALL_COLOUR]
    half = place % LINE_PLACES // 24
    return doors[THING_COLOURS + half]


def meetings(doors, place):
    """The sum of the meetings at the place."""
    if doors[BLANK] != 0:
        return 0
    seen = shows(doors, place)
    return sum(bit for one, other, bit in PAIRS if seen[one] and seen[other])

"""The deeds: what rows can do, how long they are and how many beats they take."""

# The order is that of the document: a deed's number is its place in it.
DEEDS = {
    "set": ("byte", 2),
    "test": ("byte", 2),
    "setx": ("byte", 2),
    "get": ("memory", 3),
    "put": ("memory", 3),
    "add": ("memory", 3),
    "sub": ("memory", 3),
    "mask": ("memory", 3),
    "flip": ("memory", 3),
    "getx": ("memory", 3),
    "putx": ("memory", 3),
    "lay": ("memory", 4),
    "take": ("memory", 4),
    "half": ("plain", 2),
    "twice": ("plain", 2),
    "up": ("plain", 2),
    "down": ("plain", 2),
    "tox": ("plain", 2),
    "toa": ("plain", 2),
    "rest": ("plain", 2),
    "idle": ("plain", 3),
    "wait": ("plain", 2),
    "go": ("mark", 3),
    "ifz": ("mark", 2),
    "ifn": ("mark", 2),
    "ifc": ("mark", 2),
    "ifd": ("mark", 2),
    "at": ("mark", 4),
    "door": ("door", 3),
    "eye": ("eye", 3),
    "data": ("table", 0),
}

BYTE_COUNTS = {"byte": 2, "memory": 2, "plain": 1, "mark": 2, "door": 2, "eye": 2, "table": 1}

IF_DEEDS = ("ifz", "ifn", "ifc", "ifd")


def is_deed(thing):
    """Whether anything is the text of a deed."""
    return isinstance(thing, str) and thing in DEEDS


def kind(deed):
    """The deed's kind, which says what its value is."""
    return DEEDS[deed][0]


def byte_count(deed):
    """How many bytes long a row with this deed is."""
    return BYTE_COUNTS[kind(deed)]


def beat_count(deed):
    """The beats of the deed, without those that a page or a mark adds."""
    return DEEDS[deed][1]


def number_of(deed):
    """The number of the deed, from 0."""
    return list(DEEDS).index(deed)


def deed_numbered(number):
    """The deed that has this number."""
    return list(DEEDS)[number]


def is_if(deed):
    """Whether rows with this deed are if-rows."""
    return deed in IF_DEEDS

"""What may be told of anything at all: whether it is a number, a byte, a tuple of bytes."""

MOST_OF_A_BYTE = 255


def is_whole(thing):
    """Whether it is an int."""
    # Python counts True and False as ints, the document does not.
    return isinstance(thing, int) and not isinstance(thing, bool)


def is_number(thing, low, high):
    """Whether it is an int from low to high."""
    return is_whole(thing) and low <= thing <= high


def is_byte(thing):
    """Whether it is an int from 0 to 255."""
    return is_number(thing, 0, MOST_OF_A_BYTE)


def are_bytes(thing):
    """Whether it is a tuple of bytes, of any length."""
    return isinstance(thing, tuple) and all(is_byte(part) for part in thing)


def are_so_many_bytes(thing, many):
    """Whether it is a tuple of so many bytes."""
    return are_bytes(thing) and len(thing) == many


def is_tuple_of(thing, many):
    """Whether it is a tuple with so many parts."""
    return isinstance(thing, tuple) and len(thing) == many

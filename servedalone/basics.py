"""What counts as an integer, and how many blocks rows need."""


def is_integer(value):
    """Whether the value is an integer: an int that is not a bool."""
    return isinstance(value, int) and not isinstance(value, bool)


def is_from(value, low, high):
    """Whether the value is an integer from low to high."""
    return is_integer(value) and low <= value <= high


def blocks_for(many, size):
    """How many blocks of this size so many rows need."""
    return (many + size - 1) // size

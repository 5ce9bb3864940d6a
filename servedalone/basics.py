"""What counts as an integer."""


def is_integer(value):
    """Whether the value is an integer: an int that is not a bool."""
    return isinstance(value, int) and not isinstance(value, bool)


def is_from(value, low, high):
    """Whether the value is an integer from low to high."""
    return is_integer(value) and low <= value <= high

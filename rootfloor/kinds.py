"""What the modules ask of single values: whether they are integers, numbers or roots."""

PERIODS = {2: (2,), 3: (1, 2), 5: (1,), 6: (2, 4), 13: (3,)}


def is_whole(value):
    """Whether any value is an integer; booleans are none."""
    return isinstance(value, int) and not isinstance(value, bool)


def is_between(value, low, high):
    """Whether any value is an integer from low to high."""
    return is_whole(value) and low <= value <= high


def is_number(value):
    """Whether any value is a number of at most 40 digits."""
    return is_between(value, 0, 10 ** 40 - 1)


def is_root(value):
    """Whether any value is the root of a field."""
    return is_whole(value) and value in PERIODS

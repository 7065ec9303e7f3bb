"""What the modules ask of single values: whether they are integers, numbers, roots, variables or names."""

PERIODS = {2: (2,), 3: (1, 2), 5: (1,), 6: (2, 4), 13: (3,)}
NO_VARIABLES = ("all", "and", "not", "or", "r")
NO_NAMES = ("some", "floor", "under", "leaves")


def is_whole(value):
    """Whether any value is an integer; booleans are none."""
    return isinstance(value, int) and not isinstance(value, bool)


def is_between(value, low, high):
    """Whether any value is an integer from low to high."""
    return is_whole(value) and low <= value <= high


def is_number(value):
    """Whether any value is a number of at most 40 digits."""
    return is_between(value, 0, 10 ** 40 - 1)


def is_root(value):
    """Whether any value is the root of a field."""
    return is_whole(value) and value in PERIODS


def is_variable(value):
    """Whether any value is a variable."""
    return _is_word(value, 1, 3) and value not in NO_VARIABLES


def is_name(value):
    """Whether any value is a name, as uses have it."""
    return _is_word(value, 4, 8) and value not in NO_NAMES


def _is_word(value, low, high):
    return isinstance(value, str) and low <= len(value) <= high and all([is_letter(sign) for sign in value])


def is_letter(sign):
    """Whether a sign is a lowercase letter of the words."""
    return "a" <= sign <= "z"

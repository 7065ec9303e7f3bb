"""What several test files share: the roots, wrong values, and checks by integers alone."""

from random import Random

ROOTS = (2, 3, 5, 6, 13)
PERIODS = {2: (2,), 3: (1, 2), 5: (1,), 6: (2, 4), 13: (3,)}
BASES = {2: (-1, 1, 1), 3: (-1, 1, 1), 5: (-1, 1, 2), 6: (-2, 1, 1), 13: (-3, 1, 2)}

# Values of other kinds than integers, which no check of an integer may let through.
NO_INTEGERS = (
    True, False, None, "", "5", "r", 5.0, 1.0, 0.0, 1.5, (), (5,), (1, 1, 2), [], [5], {}, {5: 5}, set(), b"5",
    object(), ("equal", ((), 0), ((), 0)),
)
GREATEST = 10 ** 40 - 1
NO_NUMBERS = (*NO_INTEGERS, -1, -2, -GREATEST, -10 ** 40, 10 ** 40, 10 ** 40 + 7, 10 ** 5000)
NO_ROOTS = (*NO_INTEGERS, -13, -5, -2, -1, 0, 1, 4, 7, 8, 9, 10, 11, 12, 14, 25, 10 ** 40, -10 ** 5000)


def raised(call, *items, **named):
    """The error that a call raises; None if it raises none."""
    try:
        call(*items, **named)
    except Exception as error:
        return error
    return None


def any_integer(random, figures):
    """An integer of either sign with at most so many figures; short ones are as likely as long ones."""
    most = 10 ** random.randint(1, figures)
    return random.randint(1 - most, most - 1)


def any_divisor(random, figures):
    """Such an integer, but not 0."""
    return any_integer(random, figures) or random.choice((-1, 1))


def sign_of(number):
    return (number > 0) - (number < 0)


def square(number):
    """The square with the sign of the number, which keeps the order of all numbers."""
    return number * abs(number)


def is_at_most(whole, j, root):
    """Whether an integer is not greater than j times the square root."""
    return square(whole) <= square(j) * root


def is_floor(found, i, j, k, root):
    """Whether an integer is the floor of (i + j r) / k; k may be negative, but not 0."""
    if k < 0:
        i, j, k = -i, -j, -k
    return is_at_most(k * found - i, j, root) and not is_at_most(k * (found + 1) - i, j, root)


def step_list(root, many):
    """q(0), q(1), .. by the recurrence, written down as in point 5."""
    period = PERIODS[root]
    steps = [1, period[0]]
    while len(steps) < many:
        part = period[(len(steps) - 1) % len(period)]
        steps.append(part * steps[-1] + steps[-2])
    return steps[:many]


def count_list(root, many):
    """p(0), p(1), .. by the recurrence, written down as in point 6."""
    period = PERIODS[root]
    counts = [0, 1]
    while len(counts) < many:
        part = period[(len(counts) - 1) % len(period)]
        counts.append(part * counts[-1] + counts[-2])
    return counts[:many]


def first_wrong(root, digits):
    """The first index at which a list of integers breaks point 5; None if there is none."""
    period = PERIODS[root]
    for place, digit in enumerate(digits):
        most = period[place % len(period)]
        if digit < 0 or digit > most:
            return place
        if place == 0 and digit == most:
            return place
        if place > 0 and digit == most and digits[place - 1] != 0:
            return place
    return None


def any_digits(random, root, many):
    """A list of digits that can stand, often with the greatest ones."""
    period = PERIODS[root]
    digits = []
    for place in range(many):
        most = period[place % len(period)]
        if place == 0 or digits[-1] != 0:
            most -= 1
        digits.append(random.choice((0, most, random.randint(0, most))))
    return digits


def seeded(word):
    """The same random numbers in each run."""
    return Random(word)

"""Fields: the roots, and the digits that belong to each of them."""

from rootfloor.errors import InvalidDigits, InvalidNumber, InvalidRoot, InvalidSlope
from rootfloor.kinds import PERIODS, is_between, is_number, is_root
from rootfloor.surds import Surd, floor_of, is_slope

MOST_PLACE = 1000
TAILS = {
    2: ((1, 1, 1),),
    3: ((1, 1, 2), (1, 1, 1)),
    5: ((1, 1, 2),),
    6: ((2, 1, 2), (2, 1, 1)),
    13: ((3, 1, 2),),
}
BASES = {2: (-1, 1, 1), 3: (-1, 1, 1), 5: (-1, 1, 2), 6: (-2, 1, 1), 13: (-3, 1, 2)}


class Field:
    """The numbers with one root, and the digits that belong to it."""

    ROOTS = (2, 3, 5, 6, 13)

    def __init__(self, root):
        if not is_root(root):
            raise InvalidRoot(root)
        self._root = root
        self._period = PERIODS[root]

    @property
    def root(self):
        return self._root

    @property
    def period(self):
        return self._period

    @property
    def top(self):
        return max(self._period)

    def part(self, index):
        """a(index), for an index from 1 to 1000."""
        if not is_between(index, 1, MOST_PLACE):
            raise InvalidNumber(index)
        return _part_above(self._period, index - 1)

    def step(self, place):
        """q(place), for a place from 0 to 1000."""
        if not is_between(place, 0, MOST_PLACE):
            raise InvalidNumber(place)
        before, here = 0, 1
        for below in range(place):
            before, here = here, _part_above(self._period, below) * here + before
        return here

    def tail(self, place):
        """The surd z(place), for a place from 0 to 1000."""
        if not is_between(place, 0, MOST_PLACE):
            raise InvalidNumber(place)
        return Surd.of_slope(self._root, TAILS[self._root][place % len(self._period)])

    def base(self):
        """The surd b."""
        return Surd.of_slope(self._root, BASES[self._root])

    def digits(self, number):
        """The list of the digits of a number, the least place first, without zeros at its end."""
        if not is_number(number):
            raise InvalidNumber(number)
        return digits_in(self._period, number)

    def value(self, digits):
        """The number with a list of digits."""
        total = 0
        before, here = 0, 1
        lower = 0
        for place, digit in enumerate(digits):
            if not can_stand(self._period, place, digit, lower):
                raise InvalidDigits(place)
            total = total + digit * here
            before, here = here, _part_above(self._period, place) * here + before
            lower = digit
        return total

    def floor(self, slope, number):
        """The floor of a slope times a number."""
        if not is_slope(slope):
            raise InvalidSlope(slope)
        if not is_number(number):
            raise InvalidNumber(number)
        return floor_of(self._root, slope, number)

    def __eq__(self, other):
        return isinstance(other, Field) and self._root == other._root

    def __repr__(self):
        return f"Field({self._root})"


def _part_above(period, place):
    """a(place + 1), the part that bounds the digit at a place."""
    return period[place % len(period)]


def digits_in(period, number):
    """The list of the digits of a number of any size, the least place first, without zeros at its end."""
    found = []
    rest = number
    for step in reversed(_steps_within(period, number)):
        digit, rest = divmod(rest, step)
        found.append(digit)
    return found[::-1]


def _steps_within(period, number):
    """The list of the steps that are not greater than a number, from q(0) on."""
    steps = []
    before, here = 0, 1
    while here <= number:
        part = _part_above(period, len(steps))
        steps.append(here)
        before, here = here, part * here + before
    return steps


def can_stand(period, place, digit, lower):
    """Whether any value can be the digit at a place above a lower digit."""
    most = _part_above(period, place)
    if place == 0 or lower != 0:
        most = most - 1
    return is_between(digit, 0, most)

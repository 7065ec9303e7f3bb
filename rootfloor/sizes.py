"""Sizes of floors: the machines that read off the floor of a slope times a number."""

from math import gcd

from rootfloor.fields import BASES
from rootfloor.machines import Machine
from rootfloor.reckonings import range_at
from rootfloor.sums import sum_machine
from rootfloor.surds import Surd

# Stands from which every number, or none, reaches what is still needed; no place is 2.
REACHED = (2, -1, 0)
MISSED = (2, 1, 0)


def size_machine(field, slope):
    """The machine with the names x and y that is true if y is the size of the floor of a slope times x."""
    whole, part, below = by_base(field, slope)
    side = -1 if sign_of(field, slope) < 0 else 1
    factors = {"x": whole, "y": -side * below}
    # With p(i) in the place of q(i) the part times x counts the part times b x, less what is left over. So the sum
    # without below times the floor is an integer n, if n and the left over are together from 0 on, but less than below.
    most = abs(part) + below
    bounds = [left_over(field, part, bound) for bound in range(-most, most + 1)]
    found = Machine.nothing(field, "x", "y")
    for at, machine in enumerate(bounds[:len(bounds) - below]):
        within = machine - bounds[at + below]
        if within:
            found = found | within & sum_machine(field, factors, at - most, far={"x": part})
    return found


def by_base(field, slope):
    """The integers with which a slope is (whole + part b) / below, without a common divisor."""
    i, j, k = slope
    # b is (low + r) / share.
    low, _, share = BASES[field.root]
    whole, part = i - j * low, j * share
    divisor = gcd(whole, part, k)
    return whole // divisor, part // divisor, k // divisor


def sign_of(field, slope):
    """-1, 0 or 1 for a slope below 0, for 0, and for one above 0."""
    return Surd.of_slope(field.root, slope).sign()


def left_over(field, part, bound):
    """The machine of the numbers x of which the part times what is left over is not less than a bound.

    What is left over is b x less the sum of the digits that are counted by p(i).
    """
    begin = (0, 0, -bound)
    numbers = {begin: 0}
    stands = [begin]
    rows = []
    while len(rows) < len(stands):
        goals = []
        for digit in range(field.top + 1):
            stand = _behind(field, part, stands[len(rows)], digit)
            goal = numbers.setdefault(stand, len(stands))
            if goal == len(stands):
                stands.append(stand)
            goals.append(goal)
        rows.append(goals)
    answers = [_need(field, stand).sign() <= 0 for stand in stands]
    return Machine(field, ["x"], rows, answers) & Machine.everything(field, "x")


def _need(field, stand):
    """What is still to be reached at a stand, measured by what a digit 1 leaves over there.

    A stand is (0, u, v) at an even place and (1, u, v) at an odd one, with the pair u q(i) + v q(i - 1). There is
    -z(i) as much left over of q(i - 1) as of q(i), and this is above 0 at even places, below 0 at odd ones.
    """
    place, u, v = stand
    need = Surd(field.root, u) - Surd(field.root, v) * field.tail(place)
    return -need if place == 1 else need


def _behind(field, part, stand, digit):
    """The stand to which a digit leads; REACHED and MISSED lead to themselves."""
    if stand in (REACHED, MISSED):
        return stand
    place, u, v = stand
    after = 1 - place
    behind = (after, v, u - digit * part - field.period[place % len(field.period)] * v)
    low, high = range_at(field, [(part, 0)], after % len(field.period))
    if after == 1:
        low, high = -high, -low
    need = _need(field, behind)
    if need.compared(low) <= 0:
        return REACHED
    return MISSED if need.compared(high) > 0 else behind

"""Carried pairs: the two integers that are enough to check an equation from the least digit on."""

from rootfloor.errors import InvalidDigits
from rootfloor.fields import TAILS, can_stand
from rootfloor.surds import Surd


def is_kept(field, factors, pair, place):
    """Whether a pair of integers is kept at a place of an equation with a list of factors."""
    i, j, k = _gap(field, pair, place)
    bound = k * _bound(field, factors)
    return Surd(field.root, i + bound, j).sign() >= 0 and Surd(field.root, i - bound, j).sign() <= 0


def carried(field, factors, constant, letters):
    """The ascending list of the carried pairs behind a list of letters."""
    _check_letters(field, len(factors), letters)
    bound = _bound(field, factors)
    # All steps are linear, so the carried pairs always are base + n * stride, for all n from a least to a greatest one.
    base, stride = (-constant, 0), (0, 1)
    low, high = _kept_range(field, bound, base, stride, 0)
    for place, letter in enumerate(letters):
        part = field.period[place % len(field.period)]
        total = sum([factor * digit for factor, digit in zip(factors, letter)])
        base, stride = _carry(base, part, total), _carry(stride, part, 0)
        least, greatest = _kept_range(field, bound, base, stride, place + 1)
        low, high = max(low, least), min(high, greatest)
        if low > high:
            return []
    return sorted([(base[0] + n * stride[0], base[1] + n * stride[1]) for n in range(low, high + 1)])


def _check_letters(field, many, letters):
    lower = [0 for _ in range(many)]
    for place, letter in enumerate(letters):
        if not isinstance(letter, tuple) or len(letter) != many:
            raise InvalidDigits(place)
        if not all([can_stand(field.period, place, digit, below) for digit, below in zip(letter, lower)]):
            raise InvalidDigits(place)
        lower = letter


def _bound(field, factors):
    """The number C."""
    return 3 * field.top * sum([abs(factor) for factor in factors])


def _carry(pair, part, total):
    """The pair that a pair becomes above a part of the period, when the digits of a letter count the total."""
    u, v = pair
    return v, u - part * v - total


def _gap(field, pair, place):
    """The integers (i, j, k) with which u - v z(place) of a pair (u, v) is (i + j r) / k."""
    u, v = pair
    i, j, k = TAILS[field.root][place % len(field.period)]
    return k * u - i * v, -j * v, k


def _kept_range(field, bound, base, stride, place):
    """The least and the greatest n with which base + n * stride is kept at a place."""
    i, j, k = _gap(field, base, place)
    growth = _gap(field, stride, place)
    # Where the gap falls as n grows, base and stride are turned round: the bounds are the same on both sides.
    if Surd(field.root, growth[0], growth[1]).sign() < 0:
        i, j, growth = -i, -j, (-growth[0], -growth[1], k)
    low = -_divided(field.root, (k * bound + i, j), growth)
    return low, _divided(field.root, (k * bound - i, -j), growth)


def _divided(root, above, below):
    """The floor of i + j r for integers (i, j) above, divided by the same for those below."""
    i, j = above
    m, n, _ = below
    return Surd(root, i * m - root * j * n, j * m - i * n, k=m * m - root * n * n).floor()

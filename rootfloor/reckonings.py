"""Reckonings: the carried pairs of an equation, by what the letters count in it."""

from rootfloor.rooms import least_table
from rootfloor.surds import Surd
from rootfloor.tables import free_table, hopeless

EXACT = (0, 0)
MORE = (1, 0)


class Strip:
    """The pairs (u, v) with u - v z(i) in a range, a pair of surds for each rest by the length of the period."""

    def __init__(self, field, ranges):
        self._field = field
        self._ranges = list(ranges)
        self._spans = [{} for _ in ranges]

    def is_kept(self, u, v, rest):
        """Whether a pair lies in the range at the places with a rest."""
        span = self._spans[rest].get(v)
        if span is None:
            low, high = self._ranges[rest]
            shift = Surd(self._field.root, v) * self._field.tail(rest)
            span = (_ceiling(low + shift), (high + shift).floor())
            self._spans[rest][v] = span
        return span[0] <= u <= span[1]

    def pairs_with(self, u):
        """The list of the pairs with a given u in the range at the place 0."""
        low, high = self._ranges[0]
        above = Surd(self._field.root, u)
        # 1 / z(0) is b.
        least = _ceiling((above - high) * self._field.base())
        greatest = ((above - low) * self._field.base()).floor()
        return [(u, v) for v in range(least, greatest + 1)]


class Reckoning:
    """The sets of carried pairs of an equation, each with a number; the set 0 is empty.

    Factors are pairs for all names: how often a number counts in the equation, and how often it counts there with p(i)
    in the place of q(i). The kind is EXACT; MORE if any number may be added; or (0, m) if the sum need only be a
    multiple of m.
    """

    def __init__(self, field, factors, constant, kind):
        more, modulus = kind
        self._field = field
        self._modulus = modulus
        # What is added is read digit by digit, too, so each pair stands beside a room of the machine of all numbers.
        self._rows, self._answers = [[0]], [True]
        pairs = list(factors)
        if more:
            rows, answers = free_table(field.period, 1)
            self._rows, self._answers = least_table(rows, answers)
            pairs.append((1, 0))
        self._lost = hopeless(self._rows, self._answers)
        self._strip = Strip(field, [range_at(field, pairs, rest) for rest in range(len(field.period))])
        self._sets = [()]
        self._numbers = {(): 0}
        self._goals = {}
        pairs = [(-constant % modulus, v) for v in range(modulus)] if modulus else self._strip.pairs_with(-constant)
        self._first = self._number([(u, v, 0) for u, v in pairs])

    def first(self):
        """The number of the set at the beginning."""
        return self._first

    def is_done(self, number):
        """Whether (0, 0) is in a set."""
        return any([u == 0 and v == 0 and self._answers[room] for u, v, room in self._sets[number]])

    def goal(self, number, rest, near, far):
        """The set behind a set at a place with a rest, when the digits count so much, and so much by p(i)."""
        at = (number, rest, near, far)
        if at not in self._goals:
            self._goals[at] = self._number(self._behind(self._sets[number], rest, near, far))
        return self._goals[at]

    def _number(self, members):
        key = tuple(sorted(members))
        number = self._numbers.setdefault(key, len(self._sets))
        if number == len(self._sets):
            self._sets.append(key)
        return number

    def _behind(self, members, rest, near, far):
        """The members behind others, as the keys of a dict."""
        part = self._field.period[rest]
        shift = far * scale_at(self._field.period, rest)
        after = (rest + 1) % len(self._field.period)
        found = {}
        for u, v, room in members:
            one = v - shift
            total = u - near - part * one
            for digit, goal in enumerate(self._rows[room]):
                other = total - digit
                if goal == self._lost:
                    continue
                if self._modulus:
                    found[(one % self._modulus, other % self._modulus, goal)] = True
                elif self._strip.is_kept(one, other, after):
                    found[(one, other, goal)] = True
        return found


def range_at(field, pairs, rest):
    """Between which surds u - v z lies for the pairs that can still lead to (0, 0), at the places with a rest.

    The digits of a number from a place i on are worth between -1 and z(i) there: z = a + 1 / z, and signs alternate.
    """
    tail = field.tail(rest)
    low = high = Surd(field.root, 0)
    for near, far in pairs:
        worth = Surd(field.root, near) - Surd(field.root, far * scale_at(field.period, rest)) * tail
        if worth.sign() > 0:
            low, high = low - worth, high + worth * tail
        else:
            low, high = low + worth * tail, high - worth
    return low, high


def scale_at(period, rest):
    """How many q(i - 1) there are in p(i), for a place i with this rest by the length of the period."""
    return period[rest - 1] // period[0]


def _ceiling(surd):
    return -(-surd).floor()

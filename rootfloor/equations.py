"""Equations: the lines that show how an equation is checked from the least digit on."""

from rootfloor.carrying import carried
from rootfloor.fields import can_stand
from rootfloor.letters import letters_of, spread
from rootfloor.reckonings import Strip
from rootfloor.surds import Surd


def line_list(field, factors, constant):
    """The list of the lines (rest, flags, pairs, goals) of an equation with a dict of factors by the names."""
    names = sorted(factors)
    counts = [factors[name] for name in names]
    letters = letters_of(field.top + 1, len(names))
    totals = spread(field.top + 1, counts)
    bound = Surd(field.root, 3 * field.top * sum([abs(count) for count in counts]))
    strip = Strip(field, [(-bound, bound) for _ in field.period])
    first = (0, tuple([0 for _ in names]), tuple(carried(field, counts, constant, [])))
    numbers = {first: 0}
    waiting = [first]
    lines = []
    while len(lines) < len(waiting):
        rest, flags, pairs = waiting[len(lines)]
        behind = {total: _carried_on(field, strip, pairs, rest, total) for total in sorted(set(totals))}
        goals = []
        for letter, total in zip(letters, totals):
            goal = -1
            if all([can_stand(field.period, rest, digit, flag) for digit, flag in zip(letter, flags)]):
                line = (rest % len(field.period) + 1, tuple([1 if digit else 0 for digit in letter]), behind[total])
                goal = numbers.setdefault(line, len(waiting))
                if goal == len(waiting):
                    waiting.append(line)
            goals.append(goal)
        lines.append((rest, flags, pairs, tuple(goals)))
    return lines


def _carried_on(field, strip, pairs, rest, total):
    """The ascending tuple of the pairs that are carried on from others, when the digits at a place count the total."""
    part = field.period[rest % len(field.period)]
    after = (rest + 1) % len(field.period)
    found = [(v, u - part * v - total) for u, v in pairs]
    return tuple(sorted([(u, v) for u, v in found if strip.is_kept(u, v, after)]))

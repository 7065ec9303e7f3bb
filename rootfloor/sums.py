"""Sums: the machines of equations, and of two machines together without a name."""

from rootfloor.letters import spread, weights_of
from rootfloor.machines import Machine
from rootfloor.reckonings import EXACT, Reckoning
from rootfloor.rooms import least_table
from rootfloor.shadows import ranks_of
from rootfloor.tables import BOTH, EITHER, free_table, hopeless, joined, reread


def sum_machine(field, factors, constant, *, far=None, kind=EXACT):
    """The machine of an equation: how often the number of each name counts, and the constant.

    The dict far tells how often numbers count with p(i) in the place of q(i), the kind is that of a reckoning.
    """
    further = {} if far is None else far
    names = sorted(factors)
    pairs = [(factors[name], further.get(name, 0)) for name in names]
    rows, answers = _sum_table(field, pairs, Reckoning(field, pairs, constant, kind))
    # What is added may have more digits than the numbers.
    ranks = ranks_of(reread(rows, [0]), answers)
    return Machine(field, names, rows, [rank is not None for rank in ranks])


def _sum_table(field, pairs, reckoning):
    """The rows and answers of a table for so many names as there are pairs of factors, not the least one."""
    free_rows, free_answers = free_table(field.period, len(pairs))
    frame, answers = least_table(free_rows, free_answers)
    lost = hopeless(frame, answers)
    nears = spread(field.top + 1, [near for near, far in pairs])
    fars = spread(field.top + 1, [far for near, far in pairs])
    nowhere = (0, 0, 0)
    begin = (0, 0, reckoning.first()) if reckoning.first() else nowhere
    numbers = {begin: 0}
    rooms = [begin]
    rows = []
    while len(rows) < len(rooms):
        rest, room, number = rooms[len(rows)]
        goals = []
        for letter, mark in enumerate(frame[room]):
            reached = nowhere
            if number and mark != lost:
                behind = reckoning.goal(number, rest, nears[letter], fars[letter])
                if behind:
                    reached = ((rest + 1) % len(field.period), mark, behind)
            goal = numbers.setdefault(reached, len(rooms))
            if goal == len(rooms):
                rooms.append(reached)
            goals.append(goal)
        rows.append(goals)
    return rows, [reckoning.is_done(number) for rest, room, number in rooms]


def joint_without(one, other, name):
    """The machine of the rows for which both machines are true with some number of a name; it may have many names."""
    names = sorted(set([*one.names(), *other.names()]))
    rows, answers = joined(_rows_over(one, names), one.answers(), _rows_over(other, names), other.answers(), BOTH)
    both = Machine(one.field, names, rows, answers)
    return both.some(name)


def any_of(machines):
    """The machine of the rows for which one of some machines is true; all have the same, perhaps many, names."""
    found = machines[0]
    for machine in machines[1:]:
        rows, answers = joined(found.rows(), found.answers(), machine.rows(), machine.answers(), EITHER)
        found = Machine(found.field, found.names(), rows, answers)
    return found


def _rows_over(machine, names):
    """The rows of a machine for the letters of more names."""
    base = machine.field.top + 1
    weights = weights_of(base, machine.names())
    return reread(machine.rows(), spread(base, [weights.get(name, 0) for name in names]))

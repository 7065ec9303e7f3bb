"""Answering: what sayings hold for, by their machines."""

from rootfloor.compiling import MOST_ROOMS, Compiler
from rootfloor.errors import FreeVariable, InvalidRow, InvalidVariables, NoTurn, NotFunction, UnknownVariable
from rootfloor.kinds import is_number
from rootfloor.ladders import Ladder
from rootfloor.letters import spread, weights_of
from rootfloor.listing import least_numbers, least_row
from rootfloor.machines import MOST_NAMES, Machine
from rootfloor.sayings import free_variables
from rootfloor.tables import hopeless


def decide(field, saying, *, known=None):
    """Whether a saying without free variables holds."""
    machine = _compiler_for(field, saying, known).machine(saying)
    _check_closed(saying)
    return bool(machine)


def example(field, saying, *, known=None):
    """The list of the least numbers for the parts "some" at the beginning of a saying, or None if it does not hold."""
    return _turned(field, saying, known, "some")


def against(field, saying, *, known=None):
    """The list of the least numbers for the parts "all" with which the rest does not hold, or None if it holds."""
    return _turned(field, saying, known, "all")


def _turned(field, saying, known, word):
    compiler = _compiler_for(field, saying, known)
    _check_closed(saying)
    names = []
    rest = saying
    while rest[0] == word:
        names.append(rest[1])
        rest = rest[2]
    if not names:
        raise NoTurn()
    machine = compiler.machine(rest).widened(*names)
    return least_numbers(machine if word == "some" else ~machine, names)


def reply(field, saying, values, *, known=None):
    """The least number for the variable of a part "some" or "all" with which the rest holds, or does not hold."""
    compiler = _compiler_for(field, saying, known)
    if saying[0] not in ("some", "all"):
        raise NoTurn()
    word, name, rest = saying
    free = free_variables(saying)
    for other in free:
        if not is_number(values.get(other)):
            raise InvalidRow(other)
    machine = compiler.machine(rest).widened(name)
    if word == "all":
        machine = ~machine
    return Ladder(machine.with_numbers({other: values[other] for other in free})).at(0)


def alike(field, *sayings, known=None):
    """Whether all sayings hold for the same numbers."""
    machines = [_compiler_for(field, saying, known).machine(saying) for saying in sayings]
    for machine in machines[1:]:
        _joint_names(machines[0], machine)
    for machine in machines[1:]:
        names = _joint_names(machines[0], machine)
        if machines[0].widened(*names) != machine.widened(*names):
            return False
    return True


def parting(field, one, other, *, known=None):
    """The least row for which exactly one of two sayings holds, or None."""
    first = _compiler_for(field, one, known).machine(one)
    second = _compiler_for(field, other, known).machine(other)
    return least_row(first - second | second - first)


def is_function(machine, name):
    """Whether for each row of the other names there is exactly one number for a name."""
    if name not in machine.names():
        raise UnknownVariable(name)
    others = [other for other in machine.names() if other != name]
    return machine.some(name) == Machine.everything(machine.field, *others) and not _has_two(machine, name)


def value_of(machine, name, values):
    """The number for a name, for the numbers of a row for the other names."""
    if name not in machine.names():
        raise UnknownVariable(name)
    others = [other for other in machine.names() if other != name]
    for other in others:
        if not is_number(values.get(other)):
            raise InvalidRow(other)
    ladder = Ladder(machine.with_numbers({other: values[other] for other in others}))
    if ladder.at(0) is None or ladder.at(1) is not None:
        raise NotFunction(name)
    return ladder.at(0)


def _compiler_for(field, saying, known):
    """The compiler that has made the machine of a saying."""
    compiler = Compiler(field, known, MOST_ROOMS)
    compiler.check(saying)
    compiler.machine(saying)
    return compiler


def _check_closed(saying):
    free = free_variables(saying)
    if free:
        raise FreeVariable(free[0])


def _joint_names(one, other):
    """The ascending list of the names of two machines together."""
    names = sorted(set([*one.names(), *other.names()]))
    if len(names) > MOST_NAMES:
        raise InvalidVariables(names[MOST_NAMES])
    return names


def _has_two(machine, name):
    """Whether there are two numbers for a name with some row of the other names."""
    rows, answers = machine.rows(), machine.answers()
    lost = hopeless(rows, answers)
    base = machine.field.top + 1
    weights = weights_of(base, machine.names())
    heads = spread(base, [weights[other] for other in machine.names() if other != name])
    # Two readings side by side, of the same numbers for the other names, and whether their digits have differed.
    waiting = [(0, 0, False)]
    found = {(0, 0, False): True}
    at = 0
    while at < len(waiting):
        one, other, apart = waiting[at]
        if apart and answers[one] and answers[other]:
            return True
        for head in heads:
            ways = [(digit, rows[one][head + digit * weights[name]]) for digit in range(base)]
            further = [(digit, rows[other][head + digit * weights[name]]) for digit in range(base)]
            for digit, goal in ways:
                for digit_by, goal_by in further:
                    stand = (goal, goal_by, apart or digit != digit_by)
                    if goal != lost and goal_by != lost and stand not in found:
                        found[stand] = True
                        waiting.append(stand)
        at += 1
    return False

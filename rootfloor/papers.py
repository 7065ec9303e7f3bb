"""Papers: tables that show how machines are made, and that can be checked line by line."""

from rootfloor.equations import line_list
from rootfloor.errors import UnknownVariable
from rootfloor.kinds import is_whole
from rootfloor.letters import letters_of, picks_without
from rootfloor.machines import Machine
from rootfloor.shadows import shadow_lines


class Paper:
    """A list of lines."""

    def __init__(self, lines):
        self._lines = list(lines)

    def lines(self):
        """The list of the lines."""
        return list(self._lines)

    def told(self):
        """What the paper is, in words."""
        return f"{len(self._lines)} lines"

    def holds(self):
        """Whether the paper is right."""
        return False


class LinePaper(Paper):
    """The lines by which an equation for numbers with names is checked."""

    def __init__(self, field, factors, constant, lines):
        super().__init__(lines)
        self._field = field
        self._factors = {name: factors[name] for name in factors}
        self._constant = constant

    def told(self):
        """What the paper is, in words."""
        return f"equation of {len(self._factors)} names, {len(self._lines)} lines"

    def holds(self):
        """Whether the lines are those of the equation."""
        return _are_same(tuple(self._lines), tuple(line_list(self._field, self._factors, self._constant)))

    def machine(self):
        """The machine of the equation, for a paper that is right."""
        lost = len(self._lines)
        rows = [[lost if goal == -1 else goal for goal in goals] for rest, flags, pairs, goals in self._lines]
        rows.append([lost for _ in letters_of(self._field.top + 1, len(self._factors))])
        answers = [(0, 0) in pairs for rest, flags, pairs, goals in self._lines]
        return Machine(self._field, sorted(self._factors), rows, [*answers, False])


class ShadowPaper(Paper):
    """The lines by which a machine is read without one of its names."""

    def __init__(self, inner, name, lines):
        super().__init__(lines)
        self._inner = inner
        self._name = name

    def told(self):
        """What the paper is, in words."""
        return f"some {self._name}, {len(self._lines)} lines"

    def holds(self):
        """Whether the lines are those of the machine and the name."""
        return _are_same(tuple(self._lines), tuple(_shadow_of(self._inner, self._name)))

    def machine(self):
        """The machine without the name, for a paper that is right."""
        others = [name for name in self._inner.names() if name != self._name]
        rows = [goals for rooms, goals, rank in self._lines]
        return Machine(self._inner.field, others, rows, [rank is not None for rooms, goals, rank in self._lines])


def line_paper(field, factors, constant):
    """The right paper of an equation."""
    return LinePaper(field, factors, constant, line_list(field, factors, constant))


def shadow_paper(machine, name):
    """The right paper of a machine and one of its names."""
    if name not in machine.names():
        raise UnknownVariable(name)
    return ShadowPaper(machine, name, _shadow_of(machine, name))


def _shadow_of(machine, name):
    picks = picks_without(machine.field.top + 1, machine.names(), name)
    return shadow_lines(machine.rows(), machine.answers(), picks)


def _are_same(value, right):
    """Whether any value is a right one with equal parts of the same kinds: of integers, None and tuples of such."""
    if isinstance(right, tuple):
        if not isinstance(value, tuple) or len(value) != len(right):
            return False
        return all([_are_same(part, right_part) for part, right_part in zip(value, right)])
    if right is None:
        return value is None
    return is_whole(value) and value == right

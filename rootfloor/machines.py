"""Machines: finite machines that read the digits of numbers, the least place first."""

from rootfloor.errors import FieldsDiffer, InvalidNumber, InvalidRow, InvalidVariables, UnknownVariable
from rootfloor.fields import digits_in
from rootfloor.kinds import is_between, is_number, is_variable
from rootfloor.letters import letters_of, picks_without, spread, sums_by_place, weights_of
from rootfloor.pins import pinned
from rootfloor.rooms import least_table
from rootfloor.shadows import shadow_lines
from rootfloor.tables import BOTH, EITHER, ONE_ALONE, free_table, joined, reread

MOST_NAMES = 4


class Machine:
    """The least machine of a field and ascending names that answers like a table of any rooms.

    In the table further letters of zeros must not change an answer, and digits that cannot stand must lead to False.
    """

    def __init__(self, field, names, rows, answers):
        self._field = field
        self._names = tuple(names)
        self._rows, self._answers = least_table(rows, answers)

    @staticmethod
    def everything(field, *names):
        """The machine of all rows."""
        check_names(names)
        rows, answers = free_table(field.period, len(names))
        return Machine(field, sorted(names), rows, answers)

    @staticmethod
    def nothing(field, *names):
        """The machine of no row."""
        check_names(names)
        letters = letters_of(field.top + 1, len(names))
        return Machine(field, sorted(names), [[0 for _ in letters]], [False])

    @property
    def field(self):
        return self._field

    def names(self):
        """The list of the names."""
        return list(self._names)

    def rows(self):
        """For each room the list of the goals of the letters."""
        return [list(row) for row in self._rows]

    def answers(self):
        """The list of the answers of the rooms."""
        return list(self._answers)

    def digits_of(self, index):
        """The letter with an index."""
        letters = letters_of(self._field.top + 1, len(self._names))
        if not is_between(index, 0, len(letters) - 1):
            raise InvalidNumber(index)
        return letters[index]

    def is_true(self, values):
        """Whether the machine is true of a row."""
        for name in self._names:
            if not is_number(values.get(name)):
                raise InvalidRow(name)
        room = 0
        for letter in self._letters_by_place(values, self._names):
            room = self._rows[room][letter]
        return self._answers[room]

    def holds(self, **numbers):
        """Whether the machine is true of the numbers that are passed by the names."""
        return self.is_true(numbers)

    def within(self, other):
        """Whether no row is true for this machine but not for the other one."""
        alone = self - other
        return not bool(alone)

    def some(self, name):
        """The machine without a name that is true if this one is for some number of the name."""
        if name not in self._names:
            raise UnknownVariable(name)
        others = [other for other in self._names if other != name]
        lines = shadow_lines(self._rows, self._answers, picks_without(self._base(), self._names, name))
        rows = [goals for rooms, goals, rank in lines]
        return Machine(self._field, others, rows, [rank is not None for rooms, goals, rank in lines])

    def every(self, name):
        """The machine without a name that is true if this one is for all numbers of the name."""
        if name not in self._names:
            raise UnknownVariable(name)
        inverse = ~self
        return ~inverse.some(name)

    def fixed(self, **numbers):
        """The machine without the passed names, with these numbers in their places."""
        for name in numbers:
            if name not in self._names:
                raise UnknownVariable(name)
        for name in numbers:
            if not is_number(numbers[name]):
                raise InvalidNumber(numbers[name])
        return self.with_numbers(numbers)

    def with_numbers(self, numbers):
        """The machine without the names of a dict, with numbers of any size in their places."""
        others = [name for name in self._names if name not in numbers]
        weights = self._weights()
        starts = spread(self._base(), [weights[name] for name in others])
        shifts = self._letters_by_place(numbers, list(numbers))
        rows, answers = pinned(self._rows, self._answers, starts, shifts)
        return Machine(self._field, others, rows, answers)

    def renamed(self, **names):
        """The machine with other names in the place of those that are passed; equal ones are read as one."""
        for name in names:
            if name not in self._names:
                raise UnknownVariable(name)
        for name in names:
            if not is_variable(names[name]):
                raise InvalidVariables(names[name])
        weights = self._weights()
        sums = {}
        for name in self._names:
            fresh = names.get(name, name)
            sums[fresh] = sums.get(fresh, 0) + weights[name]
        joint = sorted(sums)
        picks = spread(self._base(), [sums[name] for name in joint])
        return Machine(self._field, joint, reread(self._rows, picks), self._answers)

    def widened(self, *names):
        """The machine with further names, whatever their numbers are."""
        others = [name for name in names if name not in self._names]
        check_names([*self._names, *others])
        if not others:
            return self
        return self._combined(Machine.everything(self._field, *others), BOTH)

    def _base(self):
        return self._field.top + 1

    def _weights(self):
        return weights_of(self._base(), self._names)

    def _letters_by_place(self, values, names):
        """For each place the number of the letter with the digits of these names, and zeros for the others."""
        weights = self._weights()
        digits = [digits_in(self._field.period, values[name]) for name in names]
        return sums_by_place(digits, [weights[name] for name in names])

    def _joint_names(self, other):
        if self._field != other._field:
            raise FieldsDiffer()
        names = sorted(set([*self._names, *other._names]))
        if len(names) > MOST_NAMES:
            raise InvalidVariables(names[MOST_NAMES])
        return names

    def _combined(self, other, wanted):
        """The machine of the names of both that is true if their answers are a wanted pair."""
        names = self._joint_names(other)
        rows, answers = joined(self._rows_over(names), self._answers, other._rows_over(names), other._answers, wanted)
        return Machine(self._field, names, rows, answers)

    def _rows_over(self, names):
        """The rows for the letters of these names, among which are those of the machine."""
        weights = self._weights()
        return reread(self._rows, spread(self._base(), [weights.get(name, 0) for name in names]))

    def __and__(self, other):
        return self._combined(other, BOTH)

    def __or__(self, other):
        # The digits of all names are checked on both sides, since one true side is enough.
        names = self._joint_names(other)
        wide = self.widened(*names)
        return wide._combined(other.widened(*names), EITHER)

    def __sub__(self, other):
        names = self._joint_names(other)
        wide = self.widened(*names)
        return wide._combined(other, ONE_ALONE)

    def __invert__(self):
        whole = Machine.everything(self._field, *self._names)
        return whole._combined(self, ONE_ALONE)

    def __contains__(self, values):
        return self.is_true(values)

    def __eq__(self, other):
        if not isinstance(other, Machine) or self._field != other._field:
            return False
        return self._names == other._names and self._rows == other._rows and self._answers == other._answers

    def __bool__(self):
        return any(self._answers)

    def __len__(self):
        return len(self._rows)

    def __repr__(self):
        return f"Machine({len(self._names)} names, {len(self._rows)} rooms)"


def check_names(names):
    """Raises InvalidVariables for the first value that is no variable, is repeated, or is a fifth one."""
    for at, name in enumerate(names):
        if not is_variable(name) or name in names[:at] or at == MOST_NAMES:
            raise InvalidVariables(name)

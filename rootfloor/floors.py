"""Floors in terms: the machines of comparisons of terms with floors in them."""

from rootfloor.machines import MOST_NAMES
from rootfloor.reckonings import EXACT, MORE
from rootfloor.sayings import free_variables, term_variables
from rootfloor.sizes import sign_of, size_machine
from rootfloor.sums import any_of, joint_without, sum_machine
from rootfloor.texts import term_text


class Floors:
    """The machines of comparisons in one field; the machines of their floors are made once.

    A value can be on both sides of 0. A side of it is its sign there, a machine of its sizes there for all rows of its
    variables, and the name of the sizes in this machine.
    """

    def __init__(self, field):
        self._field = field
        self._sizes = {}
        self._sides = {}

    def compared(self, part):
        """The machine of a saying that compares terms, with its free variables as names."""
        names = free_variables(part)
        word = part[0]
        if word == "equal":
            return self._judged(names, _gathered(self._field, [(1, part[1]), (-1, part[2])], 0), EXACT)
        if word == "leaves":
            total = _gathered(self._field, [(1, part[1])], -part[3])
            return self._judged(names, total, (0, part[2]))
        other = part[2]
        if word == "under":
            # An integer is less than a number if it is less than the least integer from that number on.
            i, j, k = part[2]
            other = ((-1, ("floor", (-i, -j, k), part[3])),), 0
        return self._judged(names, _gathered(self._field, [(1, part[1]), (-1, other)], 1), MORE)

    def size(self, slope):
        """The machine of the sizes of the floors of a slope times x."""
        if slope not in self._sizes:
            self._sizes[slope] = size_machine(self._field, slope)
        return self._sizes[slope]

    def _judged(self, names, total, kind):
        """The machine of the rows for which a total is as a kind of reckonings asks for."""
        factors, floors, constant = total
        values = [(factor, self._sides_of(floor)) for factor, floor in floors]
        hidden = unused_names(names)
        if len(factors) > 1 and len(factors) + len(values) > MOST_NAMES:
            # All names stand in one table, so some of them are told as one value.
            size = hidden[0]
            machines = [(sign, sum_machine(self._field, {**factors, size: -sign}, 0)) for sign in (1, -1)]
            values = [(1, [(sign, machine, size) for sign, machine in machines]), *values]
            factors = {}
        return self._without(hidden, values, (factors, constant), kind).widened(*names)

    def _without(self, hidden, values, rest, kind):
        """The machine of a sum of values and a rest, whatever the values are; hidden are names for their sizes."""
        factors, constant = rest
        if not values:
            return sum_machine(self._field, factors, constant, kind=kind)
        (factor, sides), *others = values
        name, *further = hidden
        machines = []
        for sign, machine, size in sides:
            inner = self._without(further, others, ({**factors, name: sign * factor}, constant), kind)
            fresh = {size: name}
            machines.append(joint_without(inner, machine.renamed(**fresh), name))
        return any_of(machines)

    def _sides_of(self, floor):
        """The sides of a floor on which it is for some row."""
        text = _floor_text(floor)
        if text not in self._sides:
            self._sides[text] = self._made_sides(floor)
        return self._sides[text]

    def _made_sides(self, floor):
        _, slope, term = floor
        items, constant = term
        names = term_variables(term)
        number, size = unused_names(names)[:2]
        sign = sign_of(self._field, slope)
        if constant == 0 and len(items) == 1 and items[0][0] == 1 and isinstance(items[0][1], str):
            return [(sign, self.size(slope).renamed(x=names[0], y=size), size)]
        i, j, k = slope
        zero = sum_machine(self._field, {"x": 1}, 0)
        factors, floors, constant = _gathered(self._field, [(1, term)], 0)
        found = []
        # The term is a number or the negative of one; 0 belongs to the first ones.
        for turn, sizes in ((1, self.size(slope)), (-1, self.size((-i, -j, k)) - zero)):
            told = self._judged([*names, number], ({**factors, number: -turn}, floors, constant), EXACT)
            machine = joint_without(told, sizes.renamed(x=number, y=size), number)
            if machine:
                found.append((turn * sign, machine, size))
        return found


def unused_names(names):
    """Variables that are none of the names: more than a saying has values."""
    return [letter for letter in "abcdefghijklmnop" if letter not in names]


def _floor_text(floor):
    return term_text((((1, floor),), 0))


def _gathered(field, terms, constant):
    """What terms with signs and a constant come to: factors by variables, pairs of a factor and a floor, a constant."""
    factors = {}
    counts = {}
    floors = {}
    total = constant
    for sign, (items, more) in terms:
        total = total + sign * more
        for factor, thing in items:
            if isinstance(thing, str):
                factors[thing] = factors.get(thing, 0) + sign * factor
            elif sign_of(field, thing[1]) != 0:
                text = _floor_text(thing)
                counts[text] = counts.get(text, 0) + sign * factor
                floors[text] = thing
    factors = {name: factors[name] for name in factors if factors[name] != 0}
    return factors, [(counts[text], floors[text]) for text in counts if counts[text] != 0], total

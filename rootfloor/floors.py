"""Floors in terms: the machines of comparisons of terms with floors in them."""

from rootfloor.machines import MOST_NAMES
from rootfloor.reckonings import EXACT, MORE
from rootfloor.sayings import free_variables
from rootfloor.sizes import sign_of, size_machine
from rootfloor.sums import any_of, joint_without, sum_machine
from rootfloor.texts import term_text


class Floors:
    """The machines of comparisons in one field; the machines of the sizes of their floors are made once.

    A total is a dict of factors by names, a list of pairs of a factor and a floor, and a constant.
    """

    def __init__(self, field):
        self._field = field
        self._sizes = {}
        self._zero = sum_machine(field, {"x": 1}, 0)

    def compared(self, part):
        """The machine of a saying that compares terms, with its free variables as names."""
        names = free_variables(part)
        word = part[0]
        if word == "equal":
            return self._judged(names, _gathered(self._field, [(1, part[1]), (-1, part[2])], 0), EXACT)
        if word == "leaves":
            total = _gathered(self._field, [(1, part[1])], -part[3])
            return self._judged(names, total, (0, part[2]))
        other = part[2]
        if word == "under":
            # An integer is less than a number if it is less than the least integer from that number on.
            i, j, k = part[2]
            other = ((-1, ("floor", (-i, -j, k), part[3])),), 0
        return self._judged(names, _gathered(self._field, [(1, part[1]), (-1, other)], 1), MORE)

    def size(self, slope):
        """The machine of the sizes of the floors of a slope times x."""
        if slope not in self._sizes:
            self._sizes[slope] = size_machine(self._field, slope)
        return self._sizes[slope]

    def _judged(self, names, total, kind):
        """The machine of the rows for which a total is as a kind of reckonings asks for."""
        return self._solved(names, total, kind, None).widened(*names)

    def _solved(self, names, total, kind, outer):
        """The machine of a total, joint with an outer machine without one of its names, if there is one.

        Each floor has a name for its size at first. These names are left out from the outermost floors on.
        """
        factors, floors, constant = _lightened(names, total)
        taken = names if outer is None else [*names, *outer[0].names()]
        sizes = unused_names(taken)[:len(floors)]
        choices = [()]
        for _, floor in floors:
            choices = [(*before, turn) for before in choices for turn in _turns(self._field, floor)]
        machines = []
        for turns in choices:
            counts = dict(factors)
            for size, turn, (factor, floor) in zip(sizes, turns, floors):
                counts[size] = turn * sign_of(self._field, floor[1]) * factor
            machine = sum_machine(self._field, counts, constant, kind=kind)
            if outer is not None:
                machine = joint_without(outer[0], machine, outer[1])
            for size, turn, (factor, floor) in zip(sizes, turns, floors):
                machine = self._left_out(names, machine, size, floor, turn)
            machines.append(machine)
        return any_of(machines)

    def _left_out(self, names, machine, size, floor, turn):
        """A machine without the size of a floor, where its term is a number, or with the turn -1 less than 0."""
        _, (i, j, k), term = floor
        sizes = self.size((turn * i, turn * j, k))
        if _is_variable(term):
            return joint_without(machine, sizes.renamed(x=term[0][0][1], y=size), size)
        if turn < 0:
            sizes = sizes - self._zero
        # The number is the size of the term.
        number = unused_names([*names, *machine.names()])[0]
        inner = joint_without(machine, sizes.renamed(x=number, y=size), size)
        factors, floors, constant = _gathered(self._field, [(1, term)], 0)
        return self._solved(names, ({**factors, number: -turn}, floors, constant), EXACT, (inner, number))


def unused_names(names):
    """Variables that are none of the names: more than a saying has values."""
    return [letter for letter in "abcdefghijklmnopqstuvw" if letter not in names]


def _lightened(names, total):
    """A total with the same value, with not too many names of its own."""
    factors, floors, constant = total
    items = [(factors[name], name) for name in names if name in factors]
    if len(items) < 2 or len(factors) + len(floors) <= MOST_NAMES:
        return total
    # What the variables count is told as one floor.
    rest = {name: factors[name] for name in factors if name not in names}
    return rest, [*floors, (1, ("floor", (1, 0, 1), (tuple(items), 0)))], constant


def _turns(field, floor):
    """The signs that the term of a floor can have; 0 is among the numbers."""
    return (1,) if _is_number(field, floor[2]) else (1, -1)


def _is_number(field, term):
    """Whether a term is plainly never less than 0."""
    items, constant = term
    signs = [factor if isinstance(thing, str) else factor * sign_of(field, thing[1]) for factor, thing in items]
    inner = [thing[2] for _, thing in items if not isinstance(thing, str)]
    return constant >= 0 and all([sign >= 0 for sign in signs]) and all([_is_number(field, part) for part in inner])


def _is_variable(term):
    items, constant = term
    return constant == 0 and len(items) == 1 and items[0][0] == 1 and isinstance(items[0][1], str)


def _floor_text(floor):
    return term_text((((1, floor),), 0))


def _gathered(field, terms, constant):
    """What terms with signs and a constant come to: factors by variables, pairs of a factor and a floor, a constant."""
    factors = {}
    counts = {}
    floors = {}
    total = constant
    for sign, (items, more) in terms:
        total = total + sign * more
        for factor, thing in items:
            if isinstance(thing, str):
                factors[thing] = factors.get(thing, 0) + sign * factor
            elif sign_of(field, thing[1]) != 0:
                text = _floor_text(thing)
                counts[text] = counts.get(text, 0) + sign * factor
                floors[text] = thing
    factors = {name: factors[name] for name in factors if factors[name] != 0}
    return factors, [(counts[text], floors[text]) for text in counts if counts[text] != 0], total

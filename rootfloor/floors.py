"""Floors in terms: the machines of comparisons of terms with floors in them."""

from rootfloor.machines import MOST_NAMES
from rootfloor.reckonings import EXACT, MORE
from rootfloor.sayings import free_variables, term_variables
from rootfloor.sizes import sign_of, size_machine
from rootfloor.sums import any_of, joint_without, sum_machine
from rootfloor.texts import term_text


class Floors:
    """The machines of comparisons in one field; the machines of the sizes of their floors are made once.

    A total is a dict of factors by names, a list of pairs of a factor and a floor, and a constant.
    """

    def __init__(self, field):
        self._field = field
        self._sizes = {}
        self._small = {}
        self._zero = sum_machine(field, {"x": 1}, 0)

    def compared(self, part):
        """The machine of a saying that compares terms, with its free variables as names."""
        names = free_variables(part)
        word = part[0]
        if word == "equal":
            return self._judged(names, _gathered(self._field, [(1, part[1]), (-1, part[2])], 0), EXACT)
        if word == "leaves":
            total = _gathered(self._field, [(1, part[1])], -part[3])
            return self._judged(names, total, (0, part[2]))
        other = part[2]
        if word == "under":
            # An integer is less than a number if it is less than the least integer from that number on.
            i, j, k = part[2]
            other = ((-1, ("floor", (-i, -j, k), part[3])),), 0
        return self._judged(names, _gathered(self._field, [(1, part[1]), (-1, other)], 1), MORE)

    def size(self, slope):
        """The machine of the sizes of the floors of a slope times x."""
        if slope not in self._sizes:
            self._sizes[slope] = size_machine(self._field, slope)
        return self._sizes[slope]

    def _judged(self, names, total, kind):
        """The machine of the rows for which a total is as a kind of reckonings asks for."""
        return self._solved(names, total, kind, None).widened(*names)

    def _solved(self, names, total, kind, outer):
        """The machine of a total, joint with an outer machine without one of its names, if there is one.

        Each floor has a name for its size at first. These names are left out one after the other.
        """
        factors, floors, constant = _lightened(names, total)
        taken = names if outer is None else [*names, *outer[0].names()]
        sizes = unused_names(taken)[:len(floors)]
        choices = [()]
        for _, floor in floors:
            inner = term_variables(floor[2])
            is_alone = len(floors) == 1 and not any([name in factors for name in inner])
            is_small = len(inner) < 2 and not is_alone
            choices = [(*before, side) for before in choices for side in self._sides(floor, is_small)]
        machines = []
        for sides in choices:
            counts = dict(factors)
            for size, (turn, _), (factor, floor) in zip(sizes, sides, floors):
                counts[size] = turn * sign_of(self._field, floor[1]) * factor
            machine = sum_machine(self._field, counts, constant, kind=kind)
            if outer is not None:
                machine = joint_without(outer[0], machine, outer[1])
            for size, side, (_, floor) in zip(sizes, sides, floors):
                machine = self._left_out(names, machine, size, floor, side)
            machines.append(machine)
        return any_of(machines)

    def _sides(self, floor, is_small):
        """The signs that the term of a floor can have, where 0 is among the numbers, each with a machine or None.

        The machine of the sizes of a floor is made at once if it is small and not alone: fewer names stand side by
        side then. Otherwise it is better to know first what the sizes must be.
        """
        turns = (1,) if _is_number(self._field, floor[2]) else (1, -1)
        if not is_small:
            return [(turn, None) for turn in turns]
        text = _floor_text(floor)
        if text not in self._small:
            made = [(turn, self._sizes_of(floor, turn)) for turn in turns]
            self._small[text] = [(turn, machine) for turn, machine in made if machine]
        return self._small[text]

    def _sizes_of(self, floor, turn):
        """The machine of the sizes of a floor whose term has one variable at most."""
        term = floor[2]
        names = term_variables(term)
        size, number = unused_names(names)[:2]
        if _is_variable(term):
            return self.size(floor[1]).renamed(x=names[0], y=size)
        sizes = self._side(floor, turn, number, size)
        return self._solved([size, *names], self._turned(term, turn, number), EXACT, (sizes, number))

    def _left_out(self, names, machine, size, floor, side):
        """A machine without the size of a floor on one of its sides."""
        turn, made = side
        term = floor[2]
        if made is not None:
            fresh = {unused_names(term_variables(term))[0]: size}
            return joint_without(machine, made.renamed(**fresh), size)
        if _is_variable(term):
            return joint_without(machine, self.size(floor[1]).renamed(x=term[0][0][1], y=size), size)
        number = unused_names([*names, *machine.names()])[0]
        inner = joint_without(machine, self._side(floor, turn, number, size), size)
        return self._solved(names, self._turned(term, turn, number), EXACT, (inner, number))

    def _side(self, floor, turn, number, size):
        """The machine of the sizes of a floor by the number that its term is, or whose negative it is."""
        i, j, k = floor[1]
        sizes = self.size((turn * i, turn * j, k))
        if turn < 0:
            sizes = sizes - self._zero
        return sizes.renamed(x=number, y=size)

    def _turned(self, term, turn, number):
        """The total that is 0 if a term is a number or its negative."""
        factors, floors, constant = _gathered(self._field, [(1, term)], 0)
        return {**factors, number: -turn}, floors, constant


def unused_names(names):
    """Variables that are none of the names: more than a saying has values."""
    return [letter for letter in "abcdefghijklmnopqstuvw" if letter not in names]


def _lightened(names, total):
    """A total with the same value, with not too many names of its own."""
    factors, floors, constant = total
    items = [(factors[name], name) for name in names if name in factors]
    if len(items) < 2 or len(factors) + len(floors) <= MOST_NAMES:
        return total
    # What the variables count is told as one floor.
    rest = {name: factors[name] for name in factors if name not in names}
    return rest, [*floors, (1, ("floor", (1, 0, 1), (tuple(items), 0)))], constant


def _is_number(field, term):
    """Whether a term is plainly never less than 0."""
    items, constant = term
    signs = [factor if isinstance(thing, str) else factor * sign_of(field, thing[1]) for factor, thing in items]
    inner = [thing[2] for _, thing in items if not isinstance(thing, str)]
    return constant >= 0 and all([sign >= 0 for sign in signs]) and all([_is_number(field, part) for part in inner])


def _is_variable(term):
    items, constant = term
    return constant == 0 and len(items) == 1 and items[0][0] == 1 and isinstance(items[0][1], str)


def _floor_text(floor):
    return term_text((((1, floor),), 0))


def _gathered(field, terms, constant):
    """What terms with signs and a constant come to: factors by variables, pairs of a factor and a floor, a constant."""
    factors = {}
    counts = {}
    floors = {}
    total = constant
    for sign, (items, more) in terms:
        total = total + sign * more
        for factor, thing in items:
            if isinstance(thing, str):
                factors[thing] = factors.get(thing, 0) + sign * factor
            elif sign_of(field, thing[1]) != 0:
                text = _floor_text(thing)
                counts[text] = counts.get(text, 0) + sign * factor
                floors[text] = thing
    factors = {name: factors[name] for name in factors if factors[name] != 0}
    return factors, [(counts[text], floors[text]) for text in counts if counts[text] != 0], total

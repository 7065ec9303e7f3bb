"""Compiling: the machines of sayings."""

from rootfloor.errors import FreeVariable, InvalidSlope, TooMany
from rootfloor.floors import Floors
from rootfloor.machines import check_names
from rootfloor.sayings import check_saying, check_uses, free_variables
from rootfloor.sizes import size_machine
from rootfloor.surds import is_slope
from rootfloor.texts import saying_text

MOST_ROOMS = 20000


def compiled(field, saying, *, names=None, known=None, limit=MOST_ROOMS):
    """The machine of a saying, with its free variables or with other names besides."""
    compiler = Compiler(field, known, limit)
    compiler.check(saying)
    free = free_variables(saying)
    if names is not None:
        check_names(names)
        for name in free:
            if name not in names:
                raise FreeVariable(name)
    machine = compiler.machine(saying)
    return machine if names is None else machine.widened(*names)


def floor_machine(field, slope):
    """The machine with the names x and y that is true if y is the size of the floor of the slope times x."""
    if not is_slope(slope):
        raise InvalidSlope(slope)
    return size_machine(field, slope)


class Compiler:
    """Makes machines of sayings, for a dict of known sayings; the machine of a part is made once."""

    def __init__(self, field, known, limit):
        self._known = {} if known is None else {name: known[name] for name in known}
        self._limit = limit
        self._floors = Floors(field)
        self._machines = {}

    def check(self, saying):
        """Raises InvalidSaying, or the error of the first use that is wrong."""
        check_saying(saying)
        check_uses(saying, {name: len(self._known[name][0]) for name in self._known})

    def machine(self, part):
        """The machine of a part, with its free variables as names."""
        text = saying_text(part)
        if text not in self._machines:
            made = self._made(part)
            if len(made) > self._limit:
                raise TooMany(self._limit)
            self._machines[text] = made
        return self._machines[text]

    def _made(self, part):
        word = part[0]
        if word == "not":
            return ~self.machine(part[1])
        if word in ("and", "or"):
            return self._grouped(word, [self.machine(inner) for inner in part[1:]])
        if word in ("some", "all"):
            inner = self.machine(part[2])
            if part[1] not in inner.names():
                return inner
            return inner.some(part[1]) if word == "some" else inner.every(part[1])
        if word == "use":
            variables, machine = self._known[part[1]]
            names = dict(zip(variables, part[2]))
            return machine.renamed(**names)
        return self._floors.compared(part)

    def _grouped(self, word, machines):
        joint = machines[0]
        for machine in machines[1:]:
            joint = joint & machine if word == "and" else joint | machine
        return joint

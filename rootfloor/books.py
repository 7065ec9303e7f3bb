"""Books: named sayings with their history and their machines."""

from rootfloor.compiling import compiled
from rootfloor.definitions import applied, check_command, has_name, meanings, place_of, users_of
from rootfloor.errors import InvalidLimit, InvalidRow, NothingLeft, WrongCount
from rootfloor.kinds import is_between, is_number
from rootfloor.sayings import used_names


class Book:
    """Definitions in the order in which they were added."""

    MOST = 20

    def __init__(self, field, *, limit=12):
        self._field = field
        self._definitions = []
        self._check_limit(limit)
        self._limit = limit
        # The lists of definitions before each step, and behind each step that was taken back.
        self._done = []
        self._undone = []
        self._busy = False
        self._machines = {}
        self._computed = 0

    @property
    def field(self):
        return self._field

    @property
    def limit(self):
        return self._limit

    @limit.setter
    def limit(self, value):
        self._check_limit(value)
        self._limit = value

    @property
    def busy(self):
        return self._busy

    @property
    def computed(self):
        return self._computed

    def set_limit(self, value):
        """Sets the limit."""
        self.limit = value

    def apply(self, *commands):
        """Applies commands as one step; if one raises an error, none is applied."""
        for command in commands:
            check_command(command)
        self._busy = True
        try:
            definitions = self._definitions
            for command in commands:
                definitions = applied(definitions, command, self._limit)
        finally:
            self._busy = False
        self._done.append(self._definitions)
        self._undone = []
        self._turn_to(definitions)

    def undo(self):
        """Takes the last step back."""
        if not self._done:
            raise NothingLeft()
        self._undone.append(self._definitions)
        self._turn_to(self._done.pop())

    def redo(self):
        """Makes the step again that was taken back last."""
        if not self._undone:
            raise NothingLeft()
        self._done.append(self._definitions)
        self._turn_to(self._undone.pop())

    def history(self):
        """The pair of the numbers of steps that can be undone and redone."""
        return len(self._done), len(self._undone)

    def names(self):
        """The list of the names, in order."""
        return [name for name, variables, saying in self._definitions]

    def variables(self, name):
        """The variables of a name."""
        return self._definitions[place_of(self._definitions, name)][1]

    def saying(self, name):
        """The saying of a name."""
        return self._definitions[place_of(self._definitions, name)][2]

    def users(self, name):
        """The list of the names whose sayings use a name, in order."""
        place_of(self._definitions, name)
        return users_of(self._definitions, name)

    def machine(self, name):
        """The machine for the variables of a name."""
        place_of(self._definitions, name)
        if name not in self._machines:
            made = self._made(name, {})
            self._machines[name] = made
            self._computed += 1
        return self._machines[name]

    def holds(self, name, *numbers):
        """Whether the saying of a name holds for numbers, in the order of its variables."""
        variables = self.variables(name)
        if len(numbers) != len(variables):
            raise WrongCount(name)
        row = dict(zip(variables, numbers))
        for variable in sorted(row):
            if not is_number(row[variable]):
                raise InvalidRow(variable)
        return self.machine(name).is_true(row)

    def kept(self):
        """The ascending list of the names whose machines are kept."""
        return sorted(self._machines)

    def twin(self):
        """An independent book with the same definitions, limit, history and kept machines."""
        other = Book(self._field)
        other._limit = self._limit
        other._definitions = self._definitions
        other._done = list(self._done)
        other._undone = list(self._undone)
        other._machines = {name: self._machines[name] for name in self._machines}
        other._computed = self._computed
        return other

    def _check_limit(self, value):
        if not is_between(value, 1, Book.MOST) or value < len(self._definitions):
            raise InvalidLimit(value)

    def _turn_to(self, definitions):
        """Takes other definitions, and keeps the machines of the names that mean the same as before."""
        numbers = {}
        before = meanings(self._definitions, numbers)
        after = meanings(definitions, numbers)
        self._definitions = definitions
        self._machines = {
            name: self._machines[name] for name in self._machines if before[name] == after.get(name)
        }

    def _made(self, name, made):
        """The machine of a name, computed; made has the machines that were computed on the way."""
        if name in self._machines:
            return self._machines[name]
        if name not in made:
            saying = self.saying(name)
            known = {used: (self.variables(used), self._made(used, made)) for used in used_names(saying)}
            made[name] = compiled(self._field, saying, names=self.variables(name), known=known)
        return made[name]

    def __contains__(self, name):
        return has_name(self._definitions, name)

    def __eq__(self, other):
        if not isinstance(other, Book) or self._field != other._field:
            return False
        return self._definitions == other._definitions

    def __len__(self):
        return len(self._definitions)

    def __repr__(self):
        return f"Book({len(self._definitions)} sayings)"


def book_of(field, definitions):
    """A book with definitions and the greatest limit, without steps."""
    book = Book(field, limit=Book.MOST)
    book._definitions = list(definitions)
    return book

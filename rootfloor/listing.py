"""Listing: the numbers of which a machine with one name is true, and the least rows of machines."""

from rootfloor.errors import Endless, InvalidNumber, NothingLeft, NotSingle
from rootfloor.kinds import is_number
from rootfloor.ladders import Ladder
from rootfloor.reckonings import MORE
from rootfloor.sums import joint_without, sum_machine

MOST_SEEN = 10


def numbers(machine, *, start=0):
    """The numbers of the list from a number on, in ascending order; they may never end."""
    ladder = _ladder_of(machine)
    if not is_number(start):
        raise InvalidNumber(start)
    # What waits is a place, the rooms from which the digits from there on lead to True, and what these digits count.
    waiting = [(0, ladder.tops(0), 0)]
    length = 0
    while waiting or not ladder.is_ended(length):
        if waiting:
            place, above, counted = waiting.pop()
            if place == 0:
                if above and counted >= start:
                    yield counted
            else:
                waiting.extend(_lower(ladder, (place, above, counted), start))
        else:
            length += 1
            # Numbers of this length do not begin with 0.
            waiting = [
                (place, rooms, counted)
                for place, rooms, counted in _lower(ladder, (length, ladder.tops(length), 0), start) if counted > 0
            ]


def _lower(ladder, stand, start):
    """What waits at the next lower place, the least numbers last, where there are numbers from the start on."""
    place, above, counted = stand
    step = ladder.step(place - 1)
    found = []
    for digit in reversed(ladder.digits()):
        rooms = ladder.fitting(place - 1, digit, above)
        if rooms and counted + (digit + 1) * step > start:
            found.append((place - 1, rooms, counted + digit * step))
    return found


def number_at(machine, index):
    """The number with an index, or None if there is none."""
    ladder = _ladder_of(machine)
    if not is_number(index):
        raise InvalidNumber(index)
    return ladder.at(index)


def count_below(machine, bound):
    """How many numbers of the list are less than a bound."""
    ladder = _ladder_of(machine)
    if not is_number(bound):
        raise InvalidNumber(bound)
    return ladder.below(bound)


def is_endless(machine):
    """Whether the list is endless."""
    return _ladder_of(machine).is_endless()


def total(machine):
    """How many numbers the list has."""
    return _ending(machine).total()


def greatest(machine):
    """The last number of the list, or None for the empty list."""
    ladder = _ending(machine)
    many = ladder.total()
    return ladder.at(many - 1) if many else None


def gaps(machine):
    """The machine, with the same name, of the differences of neighbours of the list."""
    _check_single(machine)
    field = machine.field
    name = machine.names()[0]
    old = {name: "x"}
    listed = machine.renamed(**old)
    # The number n + g is in the list; this also holds for n + h with some h between 0 and g.
    later = joint_without(sum_machine(field, {"g": 1, "n": 1, "x": -1}, 0), listed, "x")
    nearer = later.renamed(g="h") - sum_machine(field, {"h": 1}, 0)
    between = joint_without(nearer, sum_machine(field, {"g": -1, "h": 1}, 1, kind=MORE), "h")
    next_ones = later & listed.renamed(x="n") - sum_machine(field, {"g": 1}, 0) - between
    return next_ones.some("n").renamed(g=name)


def least_row(machine):
    """The row with the least number for the first name, then for the second one, and so on; None if there is none."""
    names = machine.names()
    found = least_numbers(machine, names)
    return None if found is None else dict(zip(names, found))


def least_numbers(machine, names):
    """The list of numbers for all names of a machine, the least one for the first, and so on; None if there is none."""
    if not machine:
        return None
    chain = [machine]
    for name in reversed(names[1:]):
        chain.append(chain[-1].some(name))
    found = []
    for at, name in enumerate(names):
        known = dict(zip(names[:at], found))
        found.append(Ladder(chain[len(names) - 1 - at].with_numbers(known)).at(0))
    return found


def _check_single(machine):
    if len(machine.names()) != 1:
        raise NotSingle()


def _ladder_of(machine):
    _check_single(machine)
    return Ladder(machine)


def _ending(machine):
    """The ladder of a machine whose list is not endless."""
    ladder = _ladder_of(machine)
    if ladder.is_endless():
        raise Endless()
    return ladder


class Cursor:
    """A place before a number of a list, or behind its end."""

    def __init__(self, machine, *, position=0):
        self._ladder = _ladder_of(machine)
        self._machine = machine
        self._total = None if self._ladder.is_endless() else self._ladder.total()
        self._check_position(position)
        self._position = position
        self._place = self._ladder.at(position)
        self._moves = 0

    @property
    def place(self):
        return self._place

    @property
    def position(self):
        return self._position

    @position.setter
    def position(self, position):
        self._check_position(position)
        self._go(position)

    def move_to(self, position):
        """Moves to a position."""
        self.position = position

    def forward(self, many=1):
        """Moves over so many numbers to the end of the list, and returns the place."""
        if not is_number(many):
            raise InvalidNumber(many)
        if self._total is not None and self._position + many > self._total:
            raise NothingLeft()
        self._go(self._position + many)
        return self._place

    def back(self, many=1):
        """Moves over so many numbers to the beginning of the list, and returns the place."""
        if not is_number(many):
            raise InvalidNumber(many)
        if many > self._position:
            raise NothingLeft()
        self._go(self._position - many)
        return self._place

    def seek(self, number):
        """Moves before the first number of the list that is not less, and returns the place."""
        if not is_number(number):
            raise InvalidNumber(number)
        self._go(self._ladder.below(number))
        return self._place

    def twin(self):
        """An independent cursor at the same place, with the same number of moves."""
        other = Cursor(self._machine)
        self._share(other)
        return other

    def _share(self, other):
        """Leads another cursor of the same list to this place, with the same number of moves."""
        other._position = self._position
        other._place = self._place
        other._moves = self._moves

    def _check_position(self, position):
        if not is_number(position) or self._total is not None and position > self._total:
            raise InvalidNumber(position)

    def _go(self, position):
        if position != self._position:
            self._position = position
            self._place = self._ladder.at(position)
            self._moves += 1

    def __len__(self):
        return len(range(self._moves))

    def __repr__(self):
        return f"Cursor(position {self._position})"


class Reader(Cursor):
    """A cursor that remembers what was behind it."""

    def __init__(self, machine, *, position=0):
        super().__init__(machine, position=position)
        self._seen = []

    def seen(self):
        """The list of the numbers that forward passed over, of each call the first 10 ones at most."""
        return list(self._seen)

    def forward(self, many=1):
        """Moves over so many numbers to the end of the list, and returns the place."""
        before = self._position
        place = super().forward(many)
        self._seen.extend([self._ladder.at(before + number) for number in range(min(many, MOST_SEEN))])
        return place

    def twin(self):
        """An independent reader at the same place, with the same number of moves, that has seen the same numbers."""
        other = Reader(self._machine)
        self._share(other)
        other._seen = list(self._seen)
        return other

    def forget(self):
        """Clears the list of what was seen."""
        self._seen = []

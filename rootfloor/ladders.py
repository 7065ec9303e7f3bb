"""Ladders: how a machine with one name is read from the greatest digit down, and how its numbers are counted."""

from rootfloor.fields import digits_in
from rootfloor.rooms import edges_into, sources
from rootfloor.shadows import ranks_of
from rootfloor.tables import hopeless


class Ladder:
    """The list of the numbers of which a machine with one name is true.

    The level of a place has, for each room, how many numbers below q(place) lead to it by so many digits; rooms from
    which no answer True is reached are left out.
    """

    def __init__(self, machine):
        self._period = machine.field.period
        self._rows = machine.rows()
        self._answers = machine.answers()
        self._lost = hopeless(self._rows, self._answers)
        # From a live room further digits, not only zeros, lead to a room with the answer True.
        going = [any([goal != self._lost for goal in row[1:]]) for row in self._rows]
        self._live = [rank is not None for rank in ranks_of(self._rows, going)]
        self._levels = [{} if self._lost == 0 else {0: 1}]
        self._steps = [1]

    def is_endless(self):
        """Whether the list has infinitely many numbers."""
        # It has if the live rooms lead round in a circle, so rooms are taken away that lead to none that is left.
        goals = [sorted({goal for goal in row if self._live[goal]}) for row in self._rows]
        counts = [len(ways) for ways in goals]
        edges = edges_into(goals)
        waiting = [room for room, live in enumerate(self._live) if live and counts[room] == 0]
        gone = 0
        while gone < len(waiting):
            for room in sources(edges, waiting[gone]):
                counts[room] -= 1
                if counts[room] == 0 and self._live[room]:
                    waiting.append(room)
            gone += 1
        return gone < len([live for live in self._live if live])

    def total(self):
        """How many numbers a list has that is not endless."""
        place = 0
        while not self.is_ended(place):
            place += 1
        return self._count(place, self.tops(place))

    def is_ended(self, place):
        """Whether there are no numbers with more digits than the places below this one."""
        return not any([self._live[room] for room in self._level(place)])

    def tops(self, place):
        """The rooms at a level that have the answer True, as the keys of a dict."""
        return {room: True for room in self._level(place) if self._answers[room]}

    def fitting(self, place, digit, above):
        """The rooms at a level that a digit leads to rooms above, as the keys of a dict."""
        return {room: True for room in self._level(place) if self._rows[room][digit] in above}

    def digits(self):
        """The list of all digits, ascending."""
        return list(range(len(self._rows[0])))

    def step(self, place):
        """q(place)."""
        self._level(place)
        return self._steps[place]

    def below(self, number):
        """How many numbers of the list are less than a number."""
        digits = digits_in(self._period, number)
        above = self.tops(len(digits))
        total = 0
        for place in range(len(digits) - 1, -1, -1):
            for digit in range(digits[place]):
                total += self._count(place, self.fitting(place, digit, above))
            above = self.fitting(place, digits[place], above)
        return total

    def at(self, index):
        """The number with an index in the list, or None if there is none."""
        place = 0
        while self._count(place, self.tops(place)) <= index:
            if self.is_ended(place):
                return None
            place += 1
        above = self.tops(place)
        left = index
        number = 0
        while place > 0:
            place -= 1
            digit = 0
            rooms = self.fitting(place, digit, above)
            while self._count(place, rooms) <= left:
                left -= self._count(place, rooms)
                digit += 1
                rooms = self.fitting(place, digit, above)
            above = rooms
            number += digit * self._steps[place]
        return number

    def _count(self, place, rooms):
        """How many numbers lead to some rooms at a level."""
        level = self._level(place)
        return sum([level[room] for room in rooms])

    def _level(self, place):
        while len(self._levels) <= place:
            below = len(self._levels) - 1
            before = self._steps[below - 1] if below > 0 else 0
            self._steps.append(self._period[below % len(self._period)] * self._steps[below] + before)
            level = {}
            for room in self._levels[below]:
                for goal in self._rows[room]:
                    if goal != self._lost:
                        level[goal] = level.get(goal, 0) + self._levels[below][room]
            self._levels.append(level)
        return self._levels[place]

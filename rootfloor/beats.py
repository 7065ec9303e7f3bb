"""Beats: the differences of neighbouring floors of the multiples of a slope."""

from rootfloor.errors import InvalidNumber, InvalidSlope
from rootfloor.floors import Floors
from rootfloor.kinds import is_between, is_number
from rootfloor.machines import Machine
from rootfloor.sums import joint_without, sum_machine
from rootfloor.surds import floor_of, is_slope

MOST_BEATS = 400
MOST_ROW = 6


def beat(field, slope, start, many):
    """The list of many numbers of the beat of a slope from an index on."""
    if not is_slope(slope):
        raise InvalidSlope(slope)
    if not is_number(start):
        raise InvalidNumber(start)
    if not is_between(many, 0, MOST_BEATS):
        raise InvalidNumber(many)
    floors = [floor_of(field.root, slope, start + number) for number in range(many + 1)]
    return [after - before for before, after in zip(floors, floors[1:])]


def standing(field, slope, row):
    """The machine with the name n that is true if the integers of a list stand in the beat from the index n on."""
    if not is_slope(slope):
        raise InvalidSlope(slope)
    if not 1 <= len(row) <= MOST_ROW:
        raise InvalidNumber(len(row))
    # A beat has only the floor of the slope and the integer above it.
    least = floor_of(field.root, slope, 1)
    found = Machine.everything(field, "n")
    if any([number != least and number != least + 1 for number in row]):
        return ~found
    low = _low_beat(field, slope, least)
    for at, number in enumerate(row):
        here = low if number == least else ~low
        shift = sum_machine(field, {"n": 1, "x": -1}, at)
        found = found & joint_without(shift, here, "x")
    return found


def _low_beat(field, slope, least):
    """The machine of the indexes x at which the beat of a slope has the least of its integers."""
    before = ("floor", slope, (((1, "x"),), 0))
    after = ("floor", slope, (((1, "x"),), 1))
    return Floors(field).compared(("equal", (((1, after), (-1, before)), 0), ((), least)))

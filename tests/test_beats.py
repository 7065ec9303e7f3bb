"""Points 10 and 14, and the interface of beats."""

import unittest
from itertools import islice

from helpers import GREATEST, NO_NUMBERS, ROOTS, SLOPES, any_number, floor_at, raised, seeded, wrong_at_least_machine
from rootfloor.beats import beat, standing
from rootfloor.errors import InvalidNumber, InvalidSlope
from rootfloor.fields import Field
from rootfloor.listing import gaps, is_endless, numbers
from rootfloor.machines import Machine

NO_SLOPES = ((10, 0, 1), (0, 4, 1), (1, 1, 0), (1, 1), [1, 1, 2], None, "r", 1, (True, 1, 1), (1, 1, 5), ())
LIGHT = ((1, 1, 2), (0, 1, 1), (0, 1, 2), (-1, 1, 1), (0, -1, 1), (3, 0, 2), (2, 0, 1), (0, 0, 1), (-1, 0, 3), (1, -1, 2))


def beat_at(root, slope, index):
    return floor_at(root, slope, index + 1) - floor_at(root, slope, index)


class BeatTest(unittest.TestCase):
    def test_differences(self):
        for root in ROOTS:
            random = seeded(f"beats {root}")
            for slope in random.sample(SLOPES, 60):
                start, many = any_number(random), random.choice((0, 1, 2, 7, 60))
                found = beat(Field(root), slope, start, many)
                self.assertEqual(found, [beat_at(root, slope, start + k) for k in range(many)])
                self.assertIs(type(found), list)
                self.assertEqual(beat(many=many, start=start, slope=slope, field=Field(root)), found)
            for start in (0, GREATEST):
                found = beat(Field(root), (1, 1, 2), start, 400)
                self.assertEqual(found, [beat_at(root, (1, 1, 2), start + k) for k in range(400)])

    def test_errors_in_order(self):
        field = Field(5)
        for slope in NO_SLOPES:
            error = raised(beat, field, slope, -1, -1)
            self.assertEqual((type(error), error.given), (InvalidSlope, slope))
        for wrong in NO_NUMBERS:
            error = raised(beat, field, (1, 1, 2), wrong, 401)
            self.assertEqual(type(error), InvalidNumber)
            self.assertIs(error.given, wrong)
            error = raised(beat, field, (1, 1, 2), 3, wrong)
            self.assertEqual(type(error), InvalidNumber)
            self.assertIs(error.given, wrong)
        for many in (401, 402, 10 ** 39):
            self.assertEqual(raised(beat, field, (1, 1, 2), 3, many).given, many)


class StandingTest(unittest.TestCase):
    def check(self, root, slope, row):
        machine = standing(Field(root), slope, row)
        self.assertEqual((type(machine), machine.names(), machine.field), (Machine, ["n"], Field(root)))
        self.assertIsNone(wrong_at_least_machine(machine))
        random = seeded(f"{root} {slope} {row}")
        for start in (0, any_number(random, 30), any_number(random, 38)):
            pattern = [beat_at(root, slope, start + k) for k in range(60 + len(row))]
            for k in range(60):
                self.assertIs(machine.holds(n=start + k), pattern[k:k + len(row)] == list(row), (root, slope, row, start + k))
        return machine

    def test_rows(self):
        for root in ROOTS:
            random = seeded(f"standing {root}")
            for slope in LIGHT:
                for many in (1, random.randint(2, 6)):
                    start = any_number(random, 20)
                    row = [beat_at(root, slope, start + k) for k in range(many)]
                    self.assertTrue(self.check(root, slope, row).holds(n=start))
                    bent = list(row)
                    bent[random.randrange(many)] += random.choice((-1, 1))
                    self.check(root, slope, tuple(bent))

    def test_integers_that_are_never_there(self):
        for root in ROOTS:
            for slope in LIGHT:
                least = floor_at(root, slope, 1)
                for number in (least - 1, least + 2, 10 ** 50, -10 ** 50, GREATEST, 5000):
                    for row in ([number], [least, number], [number, least, least]):
                        self.assertEqual(standing(Field(root), slope, row), Machine.nothing(Field(root), "n"))

    def test_every_index_has_one_of_two(self):
        for root in ROOTS:
            for slope in LIGHT:
                least = floor_at(root, slope, 1)
                low, high = standing(Field(root), slope, [least]), standing(row=[least + 1], slope=slope, field=Field(root))
                self.assertEqual(low | high, Machine.everything(Field(root), "n"))
                self.assertEqual(low & high, Machine.nothing(Field(root), "n"))

    def test_gaps(self):
        for root, slope in ((5, (1, 1, 2)), (5, (-1, 1, 2)), (5, (3, 1, 2)), (2, (0, 1, 1)), (2, (1, 1, 1)), (2, (-1, 1, 1))):
            for many in range(1, 7):
                for start in range(0, 30, 7):
                    row = beat(Field(root), slope, start, many)
                    machine = standing(Field(root), slope, row)
                    found = gaps(machine)
                    self.assertIs(is_endless(machine), True)
                    self.assertIs(is_endless(found), False)
                    told = list(numbers(found))
                    self.assertIn(len(told), (2, 3))
                    if len(told) == 3:
                        self.assertEqual(told[2], told[0] + told[1])
                    listed = list(islice(numbers(machine), 60))
                    self.assertEqual(sorted({b - a for a, b in zip(listed, listed[1:])}), told)

    def test_errors(self):
        field = Field(2)
        for slope in NO_SLOPES:
            for row in ([], [1]):
                error = raised(standing, field, slope, row)
                self.assertEqual((type(error), error.given), (InvalidSlope, slope))
        for row in ([], (), [1] * 7, (1,) * 400):
            error = raised(standing, field, (0, 1, 1), row)
            self.assertEqual((type(error), error.given), (InvalidNumber, len(row)))

    def test_the_row_stays(self):
        row = [1, 2, 1]
        machine = standing(Field(2), (0, 1, 1), row)
        row[0] = 5
        self.assertEqual(row, [5, 2, 1])
        self.assertEqual(machine, standing(Field(2), (0, 1, 1), (1, 2, 1)))


if __name__ == "__main__":
    unittest.main()

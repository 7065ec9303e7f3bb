"""Points 4, 6 and 10: floors of multiples, and how digits tell them."""

import unittest
from math import isqrt

from helpers import BASES, GREATEST, NO_NUMBERS, PERIODS, ROOTS, count_list, is_floor, raised, seeded, step_list
from rootfloor.errors import InvalidNumber, InvalidSlope
from rootfloor.fields import Field
from rootfloor.surds import Surd
from test_slopes import NO_SLOPES, SLOPES


def some_numbers(word, many):
    random = seeded(word)
    yield from range(40)
    yield GREATEST
    for _ in range(many):
        yield random.randint(0, 10 ** random.randint(1, 40) - 1)


class FloorTest(unittest.TestCase):
    def test_whole_range(self):
        for root in ROOTS:
            field = Field(root)
            random = seeded(f"floors {root}")
            for i, j, k in SLOPES:
                numbers = [0, 1, 2, GREATEST, *(random.randint(0, 10 ** random.randint(1, 40) - 1) for _ in range(6))]
                for number in numbers:
                    found = field.floor((i, j, k), number)
                    self.assertIs(type(found), int)
                    self.assertTrue(is_floor(found, i * number, j * number, k, root), (root, (i, j, k), number))
                    self.assertEqual(found, (Surd.of_slope(root, (i, j, k)) * Surd(root, number)).floor())

    def test_by_square_roots(self):
        for root in ROOTS:
            for number in some_numbers(f"roots {root}", 50):
                self.assertEqual(Field(root).floor((0, 1, 1), number), isqrt(root * number * number))
                up = -isqrt(root * number * number) - (number != 0)
                self.assertEqual(Field(root).floor((0, -1, 1), number), up)
                self.assertEqual(Field(root).floor((-7, 0, 3), number), -7 * number // 3)

    def test_equal_slopes(self):
        for root in ROOTS:
            for number in some_numbers("equal", 20):
                self.assertEqual(Field(root).floor((1, 1, 2), number), Field(root).floor((2, 2, 4), number))

    def test_named(self):
        self.assertEqual(Field(5).floor(slope=(1, 1, 2), number=11), 17)

    def test_wrong_numbers(self):
        for root in ROOTS:
            for given in NO_NUMBERS:
                error = raised(Field(root).floor, (1, 1, 2), given)
                self.assertIs(type(error), InvalidNumber)
                self.assertIs(error.given, given)

    def test_wrong_slopes_come_first(self):
        for root in ROOTS:
            for value in NO_SLOPES:
                for number in (3, -1, None, 10 ** 40):
                    error = raised(Field(root).floor, value, number)
                    self.assertIs(type(error), InvalidSlope)
                    self.assertIs(error.given, value)


class DigitFloorTest(unittest.TestCase):
    def sums(self, root):
        """Each number with the places of its digits and their sum by p(i)."""
        counts = count_list(root, 250)
        for number in (*range(1500), *some_numbers(f"sums {root}", 300)):
            digits = Field(root).digits(number)
            yield number, digits, sum(digit * count for digit, count in zip(digits, counts))

    def test_floor_of_base(self):
        for root in ROOTS:
            field = Field(root)
            self.assertEqual(Surd.of_slope(root, BASES[root]), field.base())
            for number, digits, total in self.sums(root):
                least = next((place for place, digit in enumerate(digits) if digit), 0)
                self.assertEqual(field.floor(BASES[root], number), total - least % 2)

    def test_counting_further_on(self):
        for root in ROOTS:
            field = Field(root)
            m = len(PERIODS[root])
            ahead, behind = field.step(m), field.step(m - 1)
            for number, digits, total in self.sums(root):
                self.assertEqual(field.value([0] * m + digits), ahead * number + behind * total)

    def test_steps_further_on(self):
        for root in ROOTS:
            m = len(PERIODS[root])
            steps, counts = step_list(root, 120), count_list(root, 120)
            for place in range(100):
                told = steps[m] * steps[place] + steps[m - 1] * counts[place]
                self.assertEqual(Field(root).step(place + m), told)


if __name__ == "__main__":
    unittest.main()

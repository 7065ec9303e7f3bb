"""Point 5: the digits of numbers, and the numbers of lists of digits."""

import unittest
from itertools import product

from helpers import (
    GREATEST, NO_INTEGERS, NO_NUMBERS, PERIODS, ROOTS, any_digits, first_wrong, raised, seeded, step_list,
)
from rootfloor.errors import InvalidDigits, InvalidNumber
from rootfloor.fields import Field


def greedy(root, number):
    """The digits by taking the greatest step again and again."""
    steps = step_list(root, 250)
    digits = {}
    while number:
        place = max(at for at, step in enumerate(steps) if step <= number)
        many = number // steps[place]
        digits[place] = many
        number -= many * steps[place]
    return [digits.get(place, 0) for place in range(max(digits, default=-1) + 1)]


def without_zeros(digits):
    digits = list(digits)
    while digits and digits[-1] == 0:
        digits.pop()
    return digits


def some_numbers(root):
    """Numbers of one to forty figures, also near steps and sums of steps."""
    random = seeded(f"numbers {root}")
    yield from range(300)
    yield from (GREATEST, GREATEST - 1, 10 ** 39, 10 ** 39 - 1)
    for step in step_list(root, 250):
        for near in range(step - 2, step + 3):
            if 0 <= near <= GREATEST:
                yield near
    for figures in range(1, 41):
        for _ in range(5):
            yield random.randint(10 ** (figures - 1), 10 ** figures - 1)


class DigitsTest(unittest.TestCase):
    def test_both_ways(self):
        for root in ROOTS:
            field = Field(root)
            for number in some_numbers(root):
                digits = field.digits(number)
                self.assertIs(type(digits), list)
                self.assertEqual(digits, greedy(root, number))
                self.assertTrue(all(type(digit) is int for digit in digits))
                self.assertIsNone(first_wrong(root, digits))
                self.assertEqual(field.value(digits), number)

    def test_zero(self):
        for root in ROOTS:
            self.assertEqual(Field(root).digits(0), [])
            self.assertEqual(Field(root).value([]), 0)
            self.assertEqual(Field(root).value([0, 0, 0]), 0)

    def test_examples(self):
        self.assertEqual(Field(5).digits(1), [0, 1])
        self.assertEqual(Field(3).digits(2), [0, 2])
        self.assertEqual(Field(2).digits(1), [1])
        self.assertEqual(Field(6).digits(number=8), [0, 4])
        self.assertEqual(Field(13).value(digits=[2, 0, 3]), 32)

    def test_new_lists(self):
        field = Field(5)
        field.digits(11).append(7)
        self.assertEqual(field.digits(11), [0, 0, 0, 1, 0, 1])

    def test_no_numbers(self):
        for root in ROOTS:
            for given in NO_NUMBERS:
                error = raised(Field(root).digits, given)
                self.assertIs(type(error), InvalidNumber)
                self.assertIs(error.given, given)


class ValueTest(unittest.TestCase):
    def test_lists(self):
        for root in ROOTS:
            field = Field(root)
            random = seeded(f"lists {root}")
            steps = step_list(root, 60)
            for many in (*range(61), *range(61), *range(61)):
                digits = any_digits(random, root, many)
                expected = sum(digit * step for digit, step in zip(digits, steps))
                before = list(digits)
                self.assertEqual(field.value(digits), expected)
                self.assertEqual(digits, before)
                self.assertEqual(field.value(tuple(digits)), expected)
                self.assertEqual(field.value(digits + [0] * random.randint(1, 30)), expected)
                self.assertEqual(field.digits(expected), without_zeros(digits))

    def test_long_lists(self):
        for root in ROOTS:
            digits = any_digits(seeded("long"), root, 400)
            steps = step_list(root, 400)
            expected = sum(digit * step for digit, step in zip(digits, steps))
            self.assertEqual(Field(root).value(digits), expected)

    def test_exchanged(self):
        for root in ROOTS:
            field = Field(root)
            random = seeded(f"exchanged {root}")
            wrong = 0
            for _ in range(1500):
                digits = any_digits(random, root, random.randint(1, 60))
                for _ in range(random.randint(1, 2)):
                    other = random.choice((0, 1, 2, 3, 4, 5, -1, -2, -GREATEST, GREATEST, 10 ** 60))
                    digits[random.randrange(len(digits))] = other
                at = first_wrong(root, digits)
                if at is None:
                    self.assertIsNone(raised(field.value, digits))
                    continue
                wrong += 1
                error = raised(field.value, digits)
                self.assertIs(type(error), InvalidDigits)
                self.assertEqual(error.index, at)
            self.assertGreater(wrong, 500)

    def test_edges(self):
        for root in ROOTS:
            field, period = Field(root), PERIODS[root]
            self.assertEqual(raised(field.value, [period[0]]).index, 0)
            self.assertEqual(field.value([period[0] - 1]), period[0] - 1)
            most = period[1 % len(period)]
            self.assertEqual(field.value([0, most]), most * field.step(1))
            self.assertEqual(raised(field.value, [0, most + 1]).index, 1)
            above = period[2 % len(period)]
            self.assertEqual(raised(field.value, [0, 1, above]).index, 2)
            self.assertEqual(raised(field.value, [-1, 1, above]).index, 0)
            self.assertEqual(raised(field.value, (0, 1, above)).index, 2)

    def test_other_kinds(self):
        for root in ROOTS:
            for value in NO_INTEGERS:
                error = raised(Field(root).value, [0, 0, value, -1])
                self.assertIs(type(error), InvalidDigits)
                self.assertEqual(error.index, 2)
                self.assertEqual(raised(Field(root).value, [value]).index, 0)


class AllListsTest(unittest.TestCase):
    def test_each_number_once(self):
        for root, places in ((2, 8), (3, 9), (5, 14), (6, 6), (13, 6)):
            field, period = Field(root), PERIODS[root]
            choices = [range(period[place % len(period)] + 1) for place in range(places)][::-1]
            standing = [digits[::-1] for digits in product(*choices) if first_wrong(root, digits[::-1]) is None]
            # From the greatest place on they stand in the order of their numbers.
            self.assertEqual([field.value(digits) for digits in standing], list(range(len(standing))))
            self.assertEqual(len(standing), field.step(places))
            for number, digits in enumerate(standing):
                self.assertEqual(field.digits(number), without_zeros(digits))


if __name__ == "__main__":
    unittest.main()

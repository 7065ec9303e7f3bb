"""Point 7 and the interface of carrying: kept and carried pairs."""

import unittest
from itertools import product

from helpers import (
    NO_INTEGERS, PERIODS, ROOTS, any_digits, any_integer, any_number, first_wrong, is_at_most, letters_of_numbers,
    raised, seeded, step_list,
)
from rootfloor.carrying import carried, is_kept
from rootfloor.errors import InvalidDigits
from rootfloor.fields import Field

# z(0) and z(1) of the table of point 3 as (i + j r) / k.
TAILS = {2: [(1, 1, 1)], 3: [(1, 1, 2), (1, 1, 1)], 5: [(1, 1, 2)], 6: [(2, 1, 2), (2, 1, 1)], 13: [(3, 1, 2)]}


def bound(root, factors):
    return 3 * max(PERIODS[root]) * sum(abs(factor) for factor in factors)


def is_kept_by_integers(root, factors, pair, place):
    """Whether -C <= u - v z <= C, by comparing integers with multiples of the square root."""
    i, j, k = TAILS[root][place % len(TAILS[root])]
    (u, v), most = pair, bound(root, factors)
    # k (u - C) - v i <= v j r, and v j r <= k (u + C) - v i, told as -(k (u + C) - v i) <= -v j r.
    return is_at_most(k * (u - most) - v * i, v * j, root) and is_at_most(v * i - k * (u + most), -v * j, root)


def carried_plainly(root, factors, constant, letters):
    """The carried pairs, each one carried alone by the step of point 7."""
    reach = abs(constant) + bound(root, factors) + 1
    pairs = [(-constant, v) for v in range(-reach, reach + 1)]
    pairs = [pair for pair in pairs if is_kept_by_integers(root, factors, pair, 0)]
    for place, letter in enumerate(letters):
        part = PERIODS[root][place % len(PERIODS[root])]
        total = sum(factor * digit for factor, digit in zip(factors, letter))
        pairs = [(v, u - part * v - total) for u, v in pairs]
        pairs = [pair for pair in pairs if is_kept_by_integers(root, factors, pair, place + 1)]
    return sorted(pairs)


def any_factors(random, many, size=9):
    return [random.choice((-1, 1)) * random.randint(0, size) for _ in range(many)]


def drawn_letters(random, root, many, length):
    lists = [any_digits(random, root, length) for _ in range(many)]
    return [tuple(digits[place] for digits in lists) for place in range(length)]


class KeptTest(unittest.TestCase):
    def test_near_the_bounds(self):
        for root in ROOTS:
            field, random = Field(root), seeded(f"kept {root}")
            results = {True: 0, False: 0}
            for _ in range(800):
                factors = any_factors(random, random.randint(0, 3), random.choice((1, 9, 999999)))
                place = random.choice((0, 1, 2, 3, random.randint(0, 1000)))
                v = any_integer(random, random.choice((1, 2, 8, 40)))
                i, j, k = TAILS[root][place % len(TAILS[root])]
                middle = (v * i + round(v * j * root ** 0.5)) // k if abs(v) < 10 ** 9 else v
                for side in (-1, 1):
                    for step in (-2, -1, 0, 1, 2):
                        pair = (middle + side * bound(root, factors) + step, v)
                        expected = is_kept_by_integers(root, factors, pair, place)
                        self.assertIs(is_kept(field, factors, pair, place), expected)
                        results[expected] += 1
            self.assertGreater(min(results.values()), 1000)

    def test_exactly_at_the_bounds(self):
        for root in ROOTS:
            field, top = Field(root), max(PERIODS[root])
            for factors in ([1], [-2], [1, -3], (2, 0, -999999)):
                most = 3 * top * sum(map(abs, factors))
                for place in (0, 1, 2):
                    found = [is_kept(field, factors, (u, 0), place) for u in (-most - 1, -most, 0, most, most + 1)]
                    self.assertEqual(found, [False, True, True, True, False])

    def test_both_tails_count(self):
        for root in (3, 6):
            field = Field(root)
            pairs = list(product(range(-40, 41), repeat=2))
            kept = [[is_kept(field, [1], pair, place) for pair in pairs] for place in range(5)]
            self.assertEqual(kept[0], kept[2])
            self.assertEqual(kept[1], kept[3])
            self.assertEqual(kept[0], kept[4])
            self.assertNotEqual(kept[0], kept[1])

    def test_no_factors(self):
        for root in ROOTS:
            pairs = [pair for pair in product(range(-9, 10), repeat=2) if is_kept(Field(root), [], pair, 1)]
            self.assertEqual(pairs, [(0, 0)])

    def test_by_name(self):
        self.assertIs(is_kept(field=Field(5), factors=[1], pair=(3, 0), place=7), True)
        self.assertIs(is_kept(Field(5), (1,), (4, 0), 7), False)


class CarriedTest(unittest.TestCase):
    def check(self, root, factors, constant, letters):
        before = list(letters)
        found = carried(Field(root), factors, constant, letters)
        self.assertEqual(found, carried_plainly(root, factors, constant, letters))
        self.assertIs(type(found), list)
        self.assertTrue(all(type(pair) is tuple and len(pair) == 2 for pair in found))
        self.assertEqual(list(letters), before)
        return found

    def test_drawn_letters(self):
        for root in ROOTS:
            random = seeded(f"carried {root}")
            filled = 0
            for _ in range(250):
                many = random.choice((0, 1, 1, 2, 2, 3, 3, 4))
                letters = drawn_letters(random, root, many, random.randint(0, 12))
                constant = random.choice((0, 0, 1, -1, any_integer(random, 2)))
                filled += len(self.check(root, any_factors(random, many), constant, letters)) > 0
            self.assertGreater(filled, 60)

    def test_letters_of_numbers(self):
        for root in ROOTS:
            random = seeded(f"numbers {root}")
            for _ in range(60):
                numbers = [any_number(random) for _ in range(random.randint(0, 4))]
                letters = letters_of_numbers(root, numbers, more=random.randint(0, 3))
                self.check(root, any_factors(random, len(numbers)), any_integer(random, 2), letters)

    def test_no_factors(self):
        for root in ROOTS:
            for letters in ([], [()], [(), (), ()]):
                self.assertEqual(self.check(root, [], 0, letters), [(0, 0)])
                self.assertEqual(self.check(root, [], 1, letters), [])
                self.assertEqual(self.check(root, [], -999, letters), [])

    def test_no_letters(self):
        for root in ROOTS:
            for constant in (0, 1, -1, 5, -100, 1000):
                for factors in ([0], [1], [-1], [2, -3], [1, 1, -1]):
                    found = self.check(root, factors, constant, [])
                    self.assertEqual({u for u, _ in found}, {-constant} if found else set())

    def test_great_factors(self):
        for root in ROOTS:
            random = seeded(f"great {root}")
            for _ in range(3):
                factors = [random.randint(-9999, 9999), random.randint(-99, 99)]
                letters = drawn_letters(random, root, 2, random.randint(0, 40))
                self.check(root, factors, random.randint(-9999, 9999), letters)
            # Behind long letters few pairs are left, however great the factors are.
            factors = [999999, -999999, 999998, -1]
            numbers = [any_number(random) for _ in range(3)]
            numbers.append(999999 * numbers[0] - 999999 * numbers[1] + 999998 * numbers[2] + 999999)
            if 0 <= numbers[3]:
                self.assertIn((0, 0), carried(Field(root), factors, 999999, letters_of_numbers(root, numbers)))

    def test_long_letters(self):
        for root in ROOTS:
            letters = drawn_letters(seeded("long"), root, 2, 400)
            self.check(root, [1, -1], 0, letters)
            self.check(root, [1, -1], 0, [(0, 0)] * 400)

    def test_other_kinds_of_lists(self):
        field, letters = Field(5), [(0, 0), (0, 1), (1, 0)]
        found = carried(field, [1, -2], 0, letters)
        self.assertEqual(carried(field, (1, -2), 0, tuple(letters)), found)
        self.assertEqual(carried(field=field, factors=[1, -2], constant=0, letters=letters), found)
        found.append(7)
        self.assertNotIn(7, carried(field, [1, -2], 0, letters))

    def test_example(self):
        field = Field(5)
        self.assertNotIn((0, 0), carried(field, [1, -2], 0, [(0, 0), (1, 1)]))
        self.assertIn((0, 0), carried(field, [1, -2], 0, [(0, 0), (0, 1), (1, 0)]))


class EquationTest(unittest.TestCase):
    def equation(self, random):
        """Factors, a constant and numbers for which the equation holds, the last number told by the others."""
        while True:
            factors = any_factors(random, random.randint(0, 3), random.choice((3, 99, 999999)))
            numbers = [any_number(random, random.choice((2, 38))) for _ in factors]
            constant = any_integer(random, 6)
            last = sum(factor * number for factor, number in zip(factors, numbers)) + constant
            if abs(last) < 10 ** 40:
                return [*factors, -1 if last >= 0 else 1], constant, [*numbers, abs(last)]

    def test_holds_exactly_with_zeros_left(self):
        for root in ROOTS:
            field, random = Field(root), seeded(f"equation {root}")
            for _ in range(60):
                factors, constant, numbers = self.equation(random)
                for miss in (0, 0, 1, -1, random.randint(-20, 20)):
                    at = random.randrange(len(numbers))
                    other = list(numbers)
                    other[at] = max(0, other[at] + random.choice((0, 0, miss)))
                    moved = constant + random.choice((0, miss))
                    value = sum(factor * number for factor, number in zip(factors, other)) + moved
                    letters = letters_of_numbers(root, other, more=random.choice((0, 0, 1, 5)))
                    # Short letters and great factors keep very many pairs, which cannot all be told here.
                    if len(letters) < 12 and bound(root, factors) > 10 ** 5:
                        letters += [(0,) * len(other)] * 40
                    self.assertEqual((0, 0) in carried(field, factors, moved, letters), value == 0)

    def test_each_pair_tells_the_sum_so_far(self):
        for root in ROOTS:
            random, steps = seeded(f"sums {root}"), step_list(root, 250)
            checked = 0
            for _ in range(150):
                # Only the letters of an equation that holds are sure to carry a pair from each place on.
                factors, constant, numbers = self.equation(random)
                letters = letters_of_numbers(root, numbers)
                letters = letters[:random.randint(min(len(letters), 20), len(letters))]
                if bound(root, factors) > 10 ** 5 and len(letters) < 20:
                    continue
                length = len(letters)
                above, below = steps[length], steps[length - 1] if length else 0
                total = constant
                for step, letter in zip(steps, letters):
                    total += step * sum(factor * digit for factor, digit in zip(factors, letter))
                pairs = carried(Field(root), factors, constant, letters)
                self.assertTrue(pairs)
                for u, v in pairs:
                    self.assertEqual(u * above + v * below + total, 0)
                    checked += 1
            self.assertGreater(checked, 150)

    def test_small_numbers(self):
        for root in ROOTS:
            field = Field(root)
            for x, y in product(range(25), repeat=2):
                letters = letters_of_numbers(root, (x, y))
                for factors, constant in (([1, -1], 0), ([1, -2], 0), ([2, -3], 1), ([1, 1], -7), ([0, 1], -3)):
                    holds = factors[0] * x + factors[1] * y + constant == 0
                    self.assertEqual((0, 0) in carried(field, factors, constant, letters), holds)


class WrongLettersTest(unittest.TestCase):
    def check(self, root, factors, letters, index):
        error = raised(carried, Field(root), factors, 0, letters)
        self.assertIs(type(error), InvalidDigits)
        self.assertEqual(error.index, index)

    def test_exchanged_digits(self):
        for root in ROOTS:
            random = seeded(f"exchanged {root}")
            wrong = 0
            for _ in range(500):
                many = random.randint(1, 4)
                lists = [any_digits(random, root, random.randint(1, 20)) for _ in range(many)]
                length = min(map(len, lists))
                lists = [digits[:length] for digits in lists]
                random.choice(lists)[random.randrange(length)] = random.choice((0, 1, 2, 3, 4, 5, -1, 10 ** 41))
                places = [place for place in (first_wrong(root, digits) for digits in lists) if place is not None]
                letters = list(zip(*lists))
                if places:
                    wrong += 1
                    self.check(root, [1] * many, letters, min(places))
                else:
                    carried(Field(root), [1] * many, 0, letters)
            self.assertGreater(wrong, 150)

    def test_edges(self):
        for root in ROOTS:
            period = PERIODS[root]
            second = period[1 % len(period)]
            self.check(root, [1], [(period[0],)], 0)
            self.assertIsNone(raised(carried, Field(root), [1], 0, [(0,), (second,)]))
            self.check(root, [1], [(0,), (second + 1,)], 1)
            self.check(root, [1, 1], [(0, 0), (0, 1), (0, period[2 % len(period)])], 2)
            self.check(root, [1], [(-1,)], 0)

    def test_other_kinds(self):
        for root in ROOTS:
            random = seeded(f"kinds {root}")
            for many in (1, 2, 3, 4):
                for value in NO_INTEGERS:
                    letters = drawn_letters(random, root, many, 6)
                    at = random.randrange(6)
                    letter = list(letters[at])
                    letter[random.randrange(many)] = value
                    letters[at] = tuple(letter)
                    self.check(root, [1] * many, letters, at)

    def test_no_letters_and_wrong_lengths(self):
        for root in ROOTS:
            for many in range(5):
                right = (0,) * many
                wrong = [(0,) * (many + 1), [0] * many, None, 0, 1, True, "0" * many, {}, b"", "", (right,), range(many)]
                if many:
                    wrong += [(0,) * (many - 1), ()]
                for letter in wrong:
                    for index in (0, 1, 3):
                        letters = [right] * index + [letter, right, (9,) * many]
                        self.check(root, [1] * many, letters, index)


if __name__ == "__main__":
    unittest.main()

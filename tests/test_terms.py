"""Points 4 and 10: the forms of terms, and their values."""

import unittest

from helpers import (
    GREATEST, NO_INTEGERS, NO_NUMBERS, NO_VARIABLES, ROOTS, SLOPES, VARIABLES, any_number, any_term, is_floor, raised,
    seeded, variables_in,
)
from rootfloor.errors import InvalidRow
from rootfloor.fields import Field
from rootfloor.sayings import is_term, term_value

X = (((1, "x"),), 0)
NO_SLOPES = (
    (10, 0, 1), (-10, 0, 1), (0, 4, 1), (0, -4, 1), (0, 1, 0), (0, 1, 5), (0, 1), (0, 1, 1, 1), [0, 1, 1], (True, 1, 1),
    (0, False, 1), (0, 1, True), (0, 1, "1"), "r", None, 1, (), (0, None, 1),
)


def floor_of(term, slope=(0, 1, 1)):
    return ("floor", slope, term)


def floored(deep, term=X):
    """A term with floors so many deep."""
    for _ in range(deep):
        term = (((1, floor_of(term)),), 0)
    return term


def value_by_integers(test, root, term, values):
    """The value of a term; each floor is checked by squares."""
    items, total = term
    for factor, thing in items:
        if isinstance(thing, str):
            total += factor * values[thing]
            continue
        _, (i, j, k), inner = thing
        inside = value_by_integers(test, root, inner, values)
        # The square root with 90 figures is near enough to guess, and the guess is checked.
        guess = (i * inside * 10 ** 90 + j * inside * isqrt_of(root * 10 ** 180)) // (k * 10 ** 90)
        found = next(near for near in (guess - 1, guess, guess + 1) if is_floor(near, i * inside, j * inside, k, root))
        total += factor * found
    return total


def isqrt_of(number):
    low, high = 0, number
    while low < high:
        middle = (low + high + 1) // 2
        low, high = (middle, high) if middle * middle <= number else (low, middle - 1)
    return low


class TermTest(unittest.TestCase):
    def test_drawn_terms(self):
        random = seeded("terms")
        for _ in range(600):
            names = random.sample(VARIABLES, random.randint(0, 4))
            self.assertIs(is_term(any_term(random, names)), True)

    def test_bounds(self):
        for constant in (-1000, -1, 0, 1, 1000):
            self.assertIs(is_term(((), constant)), True)
            self.assertIs(is_term((((1, "x"),), constant)), True)
        for constant in (-1001, 1001, 10 ** 5000, -10 ** 5000, *NO_INTEGERS):
            self.assertIs(is_term(((), constant)), False)
        for factor in range(-9, 10):
            self.assertIs(is_term((((factor, "x"),), 0)), factor != 0)
        for factor in (-10, 10, 10 ** 5000, *NO_INTEGERS):
            self.assertIs(is_term((((factor, "x"),), 0)), False)
        for many in range(10):
            self.assertIs(is_term((((1, "x"),) * many, 0)), many <= 4)
            self.assertIs(is_term((((-2, floor_of(X)),) * many, 0)), many <= 4)
            self.assertIs(is_term((((1, floor_of((((1, "x"),) * many, 0))),), 0)), many <= 4)

    def test_variables(self):
        for name in VARIABLES:
            self.assertIs(is_term((((1, name),), 0)), True)
            self.assertIs(is_term(floored(3, (((1, name),), 0))), True)
        for value in NO_VARIABLES:
            self.assertIs(is_term((((1, value),), 0)), False)
            self.assertIs(is_term(floored(3, (((1, value),), 0))), False)
            self.assertIs(is_term((((1, "x"), (2, value)), 0)), False)

    def test_slopes(self):
        for slope in SLOPES:
            self.assertIs(is_term((((1, floor_of(X, slope)),), 0)), True)
        for slope in NO_SLOPES:
            self.assertIs(is_term((((1, floor_of(X, slope)),), 0)), False)

    def test_depth(self):
        for deep in range(6):
            self.assertIs(is_term(floored(deep)), deep <= 3)
            self.assertIs(is_term(floored(deep, ((), 7))), deep <= 3)
            self.assertIs(is_term((((1, "x"), *floored(deep)[0], *floored(3)[0]), 0)), deep <= 3)
        self.assertIs(is_term(floored(30)), False)

    def test_bent_terms(self):
        bent = [
            (), ((),), ((), 0, 0), [(), 0], ([], 0), ([(1, "x")], 0), ((1, "x"), 0), (((1, "x")), 0), (("x", 1), 0),
            ((("x", 1),), 0), (([1, "x"],), 0), (((1, "x", 0),), 0), (((1,),), 0), (((),), 0), ((None,), 0), ("", 0),
            ("x", 0), (0, ()), (((1, X),), 0), (((1, ("floor", (0, 1, 1))),), 0), (((1, ("floor", X)),), 0),
            (((1, ("floor", (0, 1, 1), X, X)),), 0), (((1, ["floor", (0, 1, 1), X]),), 0), ({}, 0), ((0, "x"), 0),
            (((1, ("Floor", (0, 1, 1), X)),), 0), (((1, (None, (0, 1, 1), X)),), 0), (((1, ("floor", X, (0, 1, 1))),), 0),
            (((1, (0, 1, 1)),), 0), (((1, ("floor", (0, 1, 1), "x")),), 0), (((1, ("floor", (0, 1, 1), None)),), 0),
            (((1, ("floor", (0, 1, 1), list(X))),), 0), (((1, (["floor"], (0, 1, 1), X)),), 0), (((1, ((), (), ())),), 0),
        ]
        for value in (*bent, *NO_INTEGERS, 0, 1, "x", "x + 1", (0, 1, 1), ("equal", X, X), object):
            self.assertIs(is_term(value), False, value)
            self.assertIs(is_term((((1, floor_of(value)),), 0)), False, value)
            self.assertIs(is_term(value=value), False)


class ValueTest(unittest.TestCase):
    def test_drawn_terms(self):
        for root in ROOTS:
            field, random = Field(root), seeded(f"values {root}")
            for _ in range(250):
                names = random.sample(VARIABLES, random.randint(0, 4))
                term = any_term(random, names)
                figures = random.choice((1, 3, 40))
                values = {name: any_number(random, figures) for name in names}
                values.update({"zz": -1, 5: None, "r": True, "": "x", (1, 2): []})
                before = list(values.items())
                found = term_value(field, term, values)
                self.assertIs(type(found), int)
                self.assertEqual(found, value_by_integers(self, root, term, values))
                self.assertEqual(list(values.items()), before)

    def test_small_ones(self):
        field = Field(5)
        self.assertEqual(term_value(field, ((), -7), {}), -7)
        self.assertEqual(term_value(field, (((2, "x"), (-3, "y")), 1), {"x": 4, "y": 5}), -6)
        self.assertEqual(term_value(field, (((1, "x"), (1, "x"), (-1, "x")), 0), {"x": 9}), 9)
        golden = (((1, ("floor", (1, 1, 2), X)),), 0)
        self.assertEqual([term_value(field, golden, {"x": n}) for n in range(6)], [0, 1, 3, 4, 6, 8])
        below = (((1, ("floor", (0, 1, 1), (((-1, "x"),), 0))),), 0)
        self.assertEqual([term_value(field, below, {"x": n}) for n in range(4)], [0, -3, -5, -7])
        half = (((-2, ("floor", (1, 0, 2), (((-1, "x"),), 0))),), 0)
        self.assertEqual([term_value(field, half, {"x": n}) for n in range(5)], [0, 2, 2, 4, 4])
        self.assertEqual(term_value(field=field, term=X, values={"x": GREATEST}), GREATEST)

    def test_rows_without_a_number(self):
        random = seeded("rows")
        for value in NO_NUMBERS:
            names = random.sample(VARIABLES, 3)
            term = (tuple((1, floor_of((((-2, name),), 3))) for name in names[:2]) + ((9, names[2]),), 0)
            for wrong in (names[:1], names[1:], names):
                for values in ({**dict.fromkeys(names, 5), **dict.fromkeys(wrong, value), 7: 8, "zzy": None},
                               {name: 5 for name in names if name not in wrong}):
                    before = list(values.items())
                    error = raised(term_value, Field(6), term, values)
                    self.assertIs(type(error), InvalidRow)
                    self.assertEqual(error.name, min(wrong))
                    self.assertEqual([key for key, _ in before], list(values))
                    self.assertTrue(all(values[key] is held for key, held in before))

    def test_first_of_drawn_terms(self):
        random = seeded("first")
        for _ in range(200):
            names = random.sample(VARIABLES, 4)
            term = any_term(random, names)
            inside = variables_in(("leaves", term, 2, 0))
            values = {name: random.choice((1, 2, None, -1, True, 10 ** 40)) for name in names}
            wrong = [name for name in sorted(inside) if values[name] not in (1, 2) or values[name] is True]
            error = raised(term_value, Field(2), term, values)
            self.assertEqual(error and error.name, wrong[0] if wrong else None)


if __name__ == "__main__":
    unittest.main()

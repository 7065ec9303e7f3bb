"""Points 4 and 12: slopes, their texts and their surds."""

import unittest
from itertools import product

from helpers import GREATEST, NO_INTEGERS, NO_ROOTS, ROOTS, any_integer, raised, seeded
from rootfloor.errors import InvalidRoot, InvalidSlope
from rootfloor.surds import Surd, is_slope, slope_text

SLOPES = list(product(range(-9, 10), range(-3, 4), range(1, 5)))
NO_SLOPES = (
    *(value for value in NO_INTEGERS if value != (1, 1, 2)), 0, 1, 5, GREATEST,
    (1,), (1, 1), (1, 1, 1, 1), [1, 1, 2], (10, 0, 1), (-10, 0, 1), (0, 4, 1), (0, -4, 1), (0, 0, 0), (0, 0, 5),
    (1, 1, -1), (1, 1, -2), (1, 1, 10 ** 5000), (10 ** 5000, 1, 1), (1, -10 ** 40, 1), (True, 1, 1), (1, True, 1),
    (1, 1, True), (False, 1, 1), (1, False, 1), (1, 1, False), (None, 1, 1), (1, "1", 1), (1, 1, "1"), ("1", "1", "1"),
    (1.0, 1, 1), (1, 1.0, 1), (1, 1, 1.0), ((1,), 1, 1), (1, (1,), 1), (1, 1, (1,)), ([1], 1, 1), ((1, 1, 2),),
    (1, None, 1), (1, 1, None), "abc", "112", {1: 1, 2: 2, 3: 3}, "(1+r)/2", (((), (), ()), ((), (), ()), ()),
)


def read_text(text):
    """The integers (i, j, k) of a text, read without regard to the program."""
    if text.startswith("("):
        inner, k = text[1:].split(")/")
    elif "/" in text:
        inner, k = text.split("/")
    else:
        inner, k = text, "1"
    if not inner.endswith("r"):
        return int(inner), 0, int(k)
    cut = max(inner.rfind("+"), inner.rfind("-"), 0)
    j = inner[cut:-1]
    return int(inner[:cut] or "0"), int(j + "1" if j in ("", "+", "-") else j), int(k)


class IsSlopeTest(unittest.TestCase):
    def test_whole_range(self):
        for value in product(range(-11, 12), range(-5, 6), range(-1, 7)):
            expected = abs(value[0]) <= 9 and abs(value[1]) <= 3 and 1 <= value[2] <= 4
            self.assertIs(is_slope(value), expected, value)

    def test_other_values(self):
        for value in NO_SLOPES:
            self.assertIs(is_slope(value), False)

    def test_named(self):
        self.assertIs(is_slope(value=(1, 1, 2)), True)


class TextTest(unittest.TestCase):
    def test_examples(self):
        expected = {
            (0, 0, 1): "0", (7, 0, 1): "7", (-7, 0, 1): "-7", (0, 1, 1): "r", (0, -1, 1): "-r", (0, 3, 1): "3r",
            (0, -3, 1): "-3r", (1, 1, 1): "1+r", (1, -1, 1): "1-r", (1, -2, 1): "1-2r", (-4, 2, 1): "-4+2r",
            (-4, -2, 1): "-4-2r", (1, 1, 2): "(1+r)/2", (0, -3, 4): "-3r/4", (0, 1, 2): "r/2", (0, -1, 2): "-r/2",
            (5, 0, 3): "5/3", (-5, 0, 3): "-5/3", (0, 0, 3): "0/3", (2, 2, 4): "(2+2r)/4", (-9, -1, 4): "(-9-r)/4",
        }
        for slope, text in expected.items():
            self.assertEqual(slope_text(slope), text)
            self.assertEqual(slope_text(slope=slope), text)

    def check(self, i, j, k):
        text = slope_text((i, j, k))
        self.assertEqual(read_text(text), (i, j, k))
        self.assertEqual("(" in text, k != 1 and i != 0 and j != 0)
        self.assertEqual("/" in text, k != 1)
        self.assertEqual("r" in text, j != 0)
        self.assertEqual(text.startswith("0"), (i, j) == (0, 0))
        for wrong in (" ", "+-", "--", "1r", "0r", "*"):
            # 1r and 0r may end greater factors only.
            if wrong not in ("1r", "0r") or abs(j) < 10:
                self.assertNotIn(wrong, text)

    def test_all_slopes(self):
        for slope in SLOPES:
            self.check(*slope)
        self.assertEqual(len({slope_text(slope) for slope in SLOPES}), len(SLOPES))

    def test_any_integers(self):
        random = seeded("texts")
        for _ in range(2000):
            i, j = (random.choice((0, 1, -1, any_integer(random, 40))) for _ in range(2))
            self.check(i, j, random.choice((1, 2, abs(any_integer(random, 40)) or 1)))


class OfSlopeTest(unittest.TestCase):
    def test_all_slopes(self):
        for root in ROOTS:
            for i, j, k in SLOPES:
                surd = Surd.of_slope(root, (i, j, k))
                self.assertEqual(surd, Surd(root, i, j, k=k))
                self.assertEqual(surd.root, root)
                self.assertIs(type(surd), Surd)

    def test_named(self):
        self.assertEqual(Surd.of_slope(root=5, slope=(2, 2, 4)).parts(), (1, 1, 2))
        self.assertEqual(Surd(5, 1).of_slope(13, (1, 1, 2)).root, 13)

    def test_wrong_slopes(self):
        for root in ROOTS:
            for value in NO_SLOPES:
                error = raised(Surd.of_slope, root, value)
                self.assertIs(type(error), InvalidSlope)
                self.assertIs(error.given, value)

    def test_wrong_roots_come_first(self):
        for given in NO_ROOTS:
            for slope in ((1, 1, 2), (1, 1, 5), None):
                error = raised(Surd.of_slope, given, slope)
                self.assertIs(type(error), InvalidRoot)
                self.assertIs(error.given, given)


if __name__ == "__main__":
    unittest.main()

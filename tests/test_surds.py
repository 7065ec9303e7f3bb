"""Points 2, 10 and 12 and the interface of surds: numbers (i + j r) / k."""

import unittest
from math import gcd, isqrt

from helpers import (
    NO_INTEGERS, NO_ROOTS, ROOTS, any_divisor, any_integer, is_floor, raised, seeded, sign_of, square,
)
from rootfloor.errors import FieldsDiffer, InvalidNumber, InvalidRoot
from rootfloor.surds import Surd, slope_text


def triples(word, many, figures):
    """Integers i, j and k, small and great, often one of them 0."""
    random = seeded(word)
    for _ in range(many):
        i, j, k = random.randint(-60, 60), random.randint(-60, 60), random.randint(-60, 60) or 1
        yield i, j, k
        yield any_integer(random, figures), any_integer(random, figures), any_divisor(random, figures)
        yield any_integer(random, figures), 0, any_divisor(random, figures)
        yield 0, any_integer(random, figures), any_divisor(random, figures)


def same_number(parts, i, j, k):
    """Whether parts tell (i + j r) / k, checked by crossing."""
    return parts[0] * k == i * parts[2] and parts[1] * k == j * parts[2]


class PartsTest(unittest.TestCase):
    def check(self, root, i, j, k):
        surd = Surd(root, i, j, k=k)
        parts = surd.parts()
        self.assertIsInstance(parts, tuple)
        self.assertTrue(all(type(part) is int for part in parts))
        self.assertGreater(parts[2], 0)
        self.assertEqual(gcd(*parts), 1)
        self.assertTrue(same_number(parts, i, j, k), (root, i, j, k))
        self.assertEqual(surd.root, root)
        self.assertEqual(surd.text(), slope_text(parts))
        self.assertEqual(repr(surd), f"Surd({slope_text(parts)}, root {root})")
        self.assertIs(bool(surd), (i, j) != (0, 0))

    def test_small(self):
        for root in ROOTS:
            for i in range(-6, 7):
                for j in range(-6, 7):
                    for k in (-12, -6, -4, -3, -2, -1, 1, 2, 3, 4, 6, 12):
                        self.check(root, i, j, k)

    def test_great(self):
        for root in ROOTS:
            for i, j, k in triples(f"parts {root}", 300, 40):
                self.check(root, i, j, k)

    def test_examples(self):
        self.assertEqual(Surd(5, 2, 2, k=4).parts(), (1, 1, 2))
        self.assertEqual(Surd(5, 2, -4, k=-6).parts(), (-1, 2, 3))
        self.assertEqual(Surd(13, 0, 0, k=-9).parts(), (0, 0, 1))
        self.assertEqual(Surd(13, 4).parts(), (4, 0, 1))
        self.assertEqual(Surd(root=2, i=4, j=6, k=2).parts(), (2, 3, 1))
        self.assertEqual(repr(Surd(5, 1, 1, k=2)), "Surd((1+r)/2, root 5)")
        self.assertEqual(repr(Surd(5, 0)), "Surd(0, root 5)")

    def test_any_size(self):
        great = 10 ** 5000
        surd = Surd(5, great, -great - 1, k=3)
        figures = "1" + 5000 * "0"
        self.assertEqual(surd.text(), f"({figures}-{figures[:-1]}1r)/3")
        for number in (10 ** 59, 10 ** 60 - 1, 10 ** 60, 10 ** 60 + 5, -10 ** 120, -10 ** 121 + 1, 7 * 10 ** 90 + 3):
            self.assertEqual(Surd(5, number).text(), str(number))

    def test_k_is_passed_by_name(self):
        self.assertRaises(TypeError, Surd, 5, 1, 1, 2)

    def test_never_changes(self):
        surd = Surd(5, 1, 1, k=2)
        with self.assertRaises(AttributeError):
            surd.root = 2
        self.assertEqual(surd.parts(), (1, 1, 2))

    def test_wrong_roots(self):
        for given in NO_ROOTS:
            error = raised(Surd, given, 1, 1)
            self.assertIs(type(error), InvalidRoot)
            self.assertIs(error.given, given)

    def test_no_denominator(self):
        for root in ROOTS:
            error = raised(Surd, root, 1, 1, k=0)
            self.assertIs(type(error), InvalidNumber)
            self.assertEqual(error.given, 0)
            self.assertIs(type(raised(Surd, root, 0, k=0)), InvalidNumber)

    def test_the_root_is_looked_at_first(self):
        for given in NO_ROOTS:
            self.assertIs(type(raised(Surd, given, 1, 1, k=0)), InvalidRoot)


class EqualityTest(unittest.TestCase):
    def test_same_numbers(self):
        for root in ROOTS:
            for i, j, k in triples(f"same {root}", 60, 40):
                one = Surd(root, i, j, k=k)
                for times in (-7, -1, 2, 10 ** 20):
                    other = Surd(root, i * times, j * times, k=k * times)
                    self.assertTrue(one == other)
                    self.assertFalse(one != other)

    def test_other_numbers(self):
        for root in ROOTS:
            for i, j, k in triples(f"others {root}", 60, 40):
                one = Surd(root, i, j, k=k)
                for other in (Surd(root, i + 1, j, k=k), Surd(root, i, j - 1, k=k)):
                    self.assertFalse(one == other)
                    self.assertTrue(one != other)
                self.assertEqual(one == Surd(root, i, j, k=k + 1 or 2), (i, j) == (0, 0))

    def test_other_roots(self):
        for root in ROOTS:
            for other in ROOTS:
                self.assertEqual(Surd(root, 3, 1) == Surd(other, 3, 1), root == other)
                self.assertEqual(Surd(root, 0) == Surd(other, 0), root == other)

    def test_nothing_else(self):
        for value in (*NO_INTEGERS, 0, 1, "1", "Surd(1, root 5)", (1, 0, 1), Surd):
            for surd in (Surd(5, 1), Surd(5, 0)):
                self.assertFalse(surd == value)
                self.assertFalse(value == surd)
                self.assertTrue(surd != value)


class ArithmeticTest(unittest.TestCase):
    def pairs(self):
        for root in ROOTS:
            ones = list(triples(f"ones {root}", 60, 20))
            others = list(triples(f"twos {root}", 60, 20))
            seeded(root).shuffle(others)
            yield from ((root, one, other) for one, other in zip(ones, others))

    def check(self, found, root, i, j, k):
        self.assertIs(type(found), Surd)
        self.assertEqual(found.root, root)
        self.assertTrue(same_number(found.parts(), i, j, k))
        self.assertEqual(gcd(*found.parts()), 1)
        self.assertIs(bool(found), (i, j) != (0, 0))

    def test_by_integers(self):
        for root, (i, j, k), (a, b, c) in self.pairs():
            one, other = Surd(root, i, j, k=k), Surd(root, a, b, k=c)
            before = one.parts(), other.parts()
            self.check(one + other, root, i * c + a * k, j * c + b * k, k * c)
            self.check(one - other, root, i * c - a * k, j * c - b * k, k * c)
            self.check(other - one, root, a * k - i * c, b * k - j * c, k * c)
            self.check(one * other, root, i * a + j * b * root, i * b + j * a, k * c)
            self.check(-one, root, -i, -j, k)
            self.check(one - one, root, 0, 0, 1)
            self.check(one + -one, root, 0, 0, 1)
            self.assertEqual((one.parts(), other.parts()), before)

    def test_other_fields(self):
        for root, (i, j, k), (a, b, c) in self.pairs():
            one = Surd(root, i, j, k=k)
            for far in ROOTS:
                if far == root:
                    continue
                third = Surd(far, a, b, k=c)
                before = one.parts(), third.parts()
                for call in (
                    lambda: one + third, lambda: one - third, lambda: one * third, lambda: one.compared(third),
                    lambda: third + one, lambda: third - one, lambda: third * one, lambda: third.compared(one),
                ):
                    self.assertIs(type(raised(call)), FieldsDiffer)
                self.assertEqual((one.parts(), third.parts()), before)

    def test_zeros_of_other_fields(self):
        zero, far = Surd(5, 0), Surd(2, 0)
        for call in (lambda: zero + far, lambda: zero - far, lambda: zero * far, lambda: zero.compared(far)):
            self.assertIs(type(raised(call)), FieldsDiffer)


class OrderTest(unittest.TestCase):
    def near_integers(self, root, many):
        """Surds that lie closely above or below an integer, with k of both signs."""
        random = seeded(f"near {root}")
        for _ in range(many):
            j, k = any_divisor(random, 40), any_divisor(random, 20)
            multiple = isqrt(j * j * root)
            whole = any_integer(random, 19)
            for slip in (-1, 0, 1, 2):
                yield whole * k - sign_of(j) * (multiple + slip), j, k

    def all_surds(self, root, many):
        yield from triples(f"order {root}", many, 40)
        yield from self.near_integers(root, many)

    def test_sign(self):
        for root in ROOTS:
            for i, j, k in self.all_surds(root, 200):
                found = Surd(root, i, j, k=k).sign()
                self.assertIs(type(found), int)
                self.assertEqual(found, sign_of(square(i) + root * square(j)) * sign_of(k))

    def test_floor(self):
        for root in ROOTS:
            for i, j, k in self.all_surds(root, 200):
                found = Surd(root, i, j, k=k).floor()
                self.assertIs(type(found), int)
                self.assertTrue(is_floor(found, i, j, k, root), (root, i, j, k))

    def test_floor_of_fractions(self):
        for root in ROOTS:
            for i in range(-60, 61):
                for k in (-7, -2, -1, 1, 2, 7):
                    self.assertEqual(Surd(root, i, k=k).floor(), i // k)

    def test_compared(self):
        for root in ROOTS:
            ones = list(self.all_surds(root, 60))
            others = ones[::-1]
            for (i, j, k), (a, b, c) in zip(ones, others):
                one, other = Surd(root, i, j, k=k), Surd(root, a, b, k=c)
                top = square(i * c - a * k) + root * square(j * c - b * k)
                expected = sign_of(top) * sign_of(k * c)
                self.assertEqual(one.compared(other), expected)
                self.assertEqual(other.compared(one), -expected)
                self.assertEqual(one.compared(Surd(root, 2 * i, 2 * j, k=2 * k)), 0)

    def test_compared_nearby(self):
        for root in ROOTS:
            one, other = 1, 0
            # Each such fraction lies nearer to the root than the one before, by turns above and below.
            for _ in range(40):
                one, other = one + root * other, one + other
                expected = sign_of(root * other * other - one * one)
                self.assertEqual(Surd(root, 0, 1).compared(Surd(root, one, k=other)), expected)
                self.assertEqual(Surd(root, one, k=other).compared(Surd(root, 0, 1)), -expected)

    def test_examples(self):
        self.assertEqual([Surd(5, 1, 1, k=2).floor(), Surd(5, -1, -1, k=2).floor()], [1, -2])
        self.assertEqual([Surd(2, 3, -2).sign(), Surd(2, -3, 2).sign(), Surd(2, 0).sign()], [1, -1, 0])
        self.assertEqual(Surd(5, 1).compared(other=Surd(5, 2)), -1)


if __name__ == "__main__":
    unittest.main()

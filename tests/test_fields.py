"""Points 3 and 5 and the interface of fields: roots, parts, steps and tails."""

import unittest

from helpers import NO_INTEGERS, NO_ROOTS, PERIODS, ROOTS, raised, step_list
from rootfloor.errors import InvalidNumber, InvalidRoot
from rootfloor.fields import Field
from rootfloor.surds import Surd

# The tails of the table of point 3, as parts of surds.
TAILS = {
    2: ((1, 1, 1),), 3: ((1, 1, 2), (1, 1, 1)), 5: ((1, 1, 2),), 6: ((2, 1, 2), (2, 1, 1)), 13: ((3, 1, 2),),
}
# r is FIRST + TIMES b, by the third column of the table.
FIRST_AND_TIMES = {2: (1, 1), 3: (1, 1), 5: (1, 2), 6: (2, 1), 13: (3, 2)}


class FieldTest(unittest.TestCase):
    def test_roots(self):
        self.assertEqual(Field.ROOTS, (2, 3, 5, 6, 13))
        self.assertIs(type(Field.ROOTS), tuple)
        for root in range(-50, 200):
            if root in ROOTS:
                self.assertEqual(Field(root).root, root)
            else:
                self.assertIs(type(raised(Field, root)), InvalidRoot)

    def test_wrong_roots(self):
        for given in NO_ROOTS:
            error = raised(Field, given)
            self.assertIs(type(error), InvalidRoot)
            self.assertIs(error.given, given)

    def test_period_and_top(self):
        for root in ROOTS:
            field = Field(root=root)
            self.assertEqual(field.period, PERIODS[root])
            self.assertIs(type(field.period), tuple)
            self.assertEqual(field.top, max(PERIODS[root]))

    def test_never_changes(self):
        for name in ("root", "period", "top"):
            field = Field(6)
            with self.assertRaises(AttributeError):
                setattr(field, name, 2)
            self.assertEqual((field.root, field.period, field.top), (6, (2, 4), 4))

    def test_equality(self):
        for root in ROOTS:
            for other in ROOTS:
                self.assertEqual(Field(root) == Field(other), root == other)
                self.assertEqual(Field(root) != Field(other), root != other)
        for value in (*NO_INTEGERS, 5, "Field(5)", Surd(5, 5), Field):
            self.assertFalse(Field(5) == value)
            self.assertFalse(value == Field(5))

    def test_repr(self):
        self.assertEqual([repr(Field(root)) for root in ROOTS], [f"Field({root})" for root in ROOTS])

    def test_first_example(self):
        field = Field(5)
        found = [field.digits(11), field.value([0, 0, 1, 0, 1]), field.floor((1, 1, 2), 11)]
        self.assertEqual(found, [[0, 0, 0, 1, 0, 1], 7, 17])


class PartTest(unittest.TestCase):
    def test_parts(self):
        for root in ROOTS:
            period = PERIODS[root]
            wanted = (1000 * period)[:1000]
            self.assertEqual([Field(root).part(index) for index in range(1, 1001)], list(wanted))
            self.assertEqual(Field(root).part(index=1), period[0])

    def test_other_values(self):
        for root in ROOTS:
            for given in (*NO_INTEGERS, 0, -1, -999, 1001, 1002, 10 ** 40, -10 ** 5000):
                error = raised(Field(root).part, given)
                self.assertIs(type(error), InvalidNumber)
                self.assertIs(error.given, given)


class StepTest(unittest.TestCase):
    def test_steps(self):
        for root in ROOTS:
            steps = step_list(root, 1001)
            for place in (*range(0, 201), 999, 1000):
                self.assertEqual(Field(root).step(place), steps[place])
            self.assertEqual(Field(root).step(place=3), steps[3])

    def test_first_steps(self):
        first = {
            2: [1, 2, 5, 12, 29, 70], 3: [1, 1, 3, 4, 11, 15], 5: [1, 1, 2, 3, 5, 8], 6: [1, 2, 9, 20, 89, 198],
            13: [1, 3, 10, 33, 109, 360],
        }
        for root in ROOTS:
            self.assertEqual([Field(root).step(place) for place in range(6)], first[root])

    def test_other_values(self):
        for root in ROOTS:
            for given in (*NO_INTEGERS, -1, -2, 1001, 1002, 10 ** 40, -10 ** 5000):
                for call in (Field(root).step, Field(root).tail):
                    error = raised(call, given)
                    self.assertIs(type(error), InvalidNumber)
                    self.assertIs(error.given, given)


class TailTest(unittest.TestCase):
    def test_table(self):
        for root in ROOTS:
            tails = TAILS[root]
            for place in (*range(0, 201), 999, 1000):
                tail = Field(root).tail(place)
                self.assertIs(type(tail), Surd)
                self.assertEqual(tail.root, root)
                self.assertEqual(tail.parts(), tails[place % len(tails)])
            self.assertEqual(Field(root).tail(place=0).parts(), tails[0])

    def test_continued_fraction(self):
        for root in ROOTS:
            field = Field(root)
            one = Surd(root, 1)
            for place in range(200):
                part = Surd(root, field.part(place + 1))
                # z(i) is a(i + 1) + 1 / z(i + 1), and all that is behind is below 1.
                self.assertEqual((field.tail(place) - part) * field.tail(place + 1), one)
                self.assertEqual(field.tail(place).floor(), field.part(place + 1))

    def test_base(self):
        for root in ROOTS:
            base = Field(root).base()
            self.assertIs(type(base), Surd)
            self.assertEqual(base * Field(root).tail(0), Surd(root, 1))
            first, times = FIRST_AND_TIMES[root]
            self.assertEqual(Surd(root, first) + Surd(root, times) * base, Surd(root, 0, 1))
            self.assertEqual(base.floor(), 0)


if __name__ == "__main__":
    unittest.main()

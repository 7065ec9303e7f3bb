"""Point 9 and the interface of machines: what is made of machines, and how they are compared."""

import unittest
from itertools import product

from helpers import (
    GREATEST, NO_INTEGERS, NO_NUMBERS, NO_VARIABLES, ROOTS, all_letters, any_number, equals, less, raised, seeded,
    wrong_at_least_machine,
)
from rootfloor.errors import FieldsDiffer, InvalidNumber, InvalidVariables, UnknownVariable
from rootfloor.fields import Field
from rootfloor.machines import Machine

SMALL = (0, 1, 2, 3, 5, 8)


def digit_machine(root, *names):
    """The machine that is true if the numbers together have an even number of digits other than 0."""
    odd = [sum(digit != 0 for digit in letter) % 2 for letter in all_letters(root, len(names))]
    rows = [[room ^ one for one in odd] for room in range(2)]
    return Machine(Field(root), sorted(names), rows, [True, False]) & Machine.everything(Field(root), *names)


class Case(unittest.TestCase):
    def check(self, machine, names, says, numbers=SMALL):
        """Whether a machine is the least one of the names and says the same as a function of their numbers."""
        self.assertIs(type(machine), Machine)
        self.assertEqual(machine.names(), sorted(names))
        self.assertIsNone(wrong_at_least_machine(machine))
        for row in product(numbers, repeat=len(names)):
            self.assertIs(machine.is_true(dict(zip(names, row))), says(*row), row)

    def check_error(self, kind, call, *items, **named):
        error = raised(call, *items, **named)
        self.assertIs(type(error), kind)
        return error


class JoinTest(Case):
    def test_same_names(self):
        for root in ROOTS:
            twice, smaller = equals(root, x=1, y=-2), less(root, "x", "y")
            self.check(twice & smaller, "xy", lambda x, y: x == 2 * y and x < y)
            self.check(twice | smaller, "xy", lambda x, y: x == 2 * y or x < y)
            self.check(twice - smaller, "xy", lambda x, y: x == 2 * y and not x < y)
            self.check(smaller - twice, "xy", lambda x, y: x < y and x != 2 * y)
            self.check(~twice, "xy", lambda x, y: x != 2 * y)
            self.check(~(twice | smaller), "xy", lambda x, y: x != 2 * y and x >= y)

    def test_other_names(self):
        for root in ROOTS:
            twice, smaller = equals(root, x=1, y=-2), less(root, "y", "a")
            numbers = (0, 1, 2, 4, 5)
            self.check(twice & smaller, "xya", lambda x, y, a: x == 2 * y and y < a, numbers)
            self.check(twice | smaller, "xya", lambda x, y, a: x == 2 * y or y < a, numbers)
            self.check(twice - smaller, "xya", lambda x, y, a: x == 2 * y and not y < a, numbers)
            self.check(smaller - twice, "xya", lambda x, y, a: x != 2 * y and y < a, numbers)
            three = equals(root, -3, b=1)
            self.check(three & twice, "bxy", lambda b, x, y: b == 3 and x == 2 * y, numbers)
            self.check(three | twice, "bxy", lambda b, x, y: b == 3 or x == 2 * y, (0, 2, 3, 4))
            self.check(three - twice, "bxy", lambda b, x, y: b == 3 and x != 2 * y, (0, 2, 3, 4))

    def test_four_names(self):
        for root in (2, 5):
            one, other = equals(root, a=1, b=-2), equals(root, c=2, d=-3)
            self.check(one & other, "abcd", lambda a, b, c, d: a == 2 * b and 2 * c == 3 * d, (0, 1, 2, 3, 6))
            self.check(one | other, "abcd", lambda a, b, c, d: a == 2 * b or 2 * c == 3 * d, (0, 1, 2, 3, 6))
            self.check(one - other, "abcd", lambda a, b, c, d: a == 2 * b and 2 * c != 3 * d, (0, 1, 2, 3, 6))
            self.check(~one & ~other, "abcd", lambda a, b, c, d: a != 2 * b and 2 * c != 3 * d, (0, 1, 2, 3, 6))

    def test_drawn_ones(self):
        for root in ROOTS:
            random = seeded(f"drawn {root}")
            known = [
                (equals(root, x=1, y=-2), lambda x, y, a: x == 2 * y), (less(root, "a", "x"), lambda x, y, a: a < x),
                (equals(root, x=2, y=-1), lambda x, y, a: 2 * x == y), (less(root, "y", "x"), lambda x, y, a: y < x),
                (equals(root, -5, a=1), lambda x, y, a: a == 5), (equals(root, a=1, y=-1), lambda x, y, a: a == y),
            ]
            known = [(machine.widened("x", "y", "a"), says) for machine, says in known]
            for _ in range(6):
                (one, says_one), (other, says_other) = random.choice(known), random.choice(known)
                made, says = random.choice((
                    (one & other, lambda *row, p=says_one, q=says_other: p(*row) and q(*row)),
                    (one | other, lambda *row, p=says_one, q=says_other: p(*row) or q(*row)),
                    (one - other, lambda *row, p=says_one, q=says_other: p(*row) and not q(*row)),
                    (~one, lambda *row, p=says_one: not p(*row)),
                ))
                self.check(made, "xya", says, (0, 1, 2, 5))
                known.append((made, says))
            for machine, says in known:
                for _ in range(10):
                    x, y, a = any_number(random), any_number(random), any_number(random)
                    row = random.choice(((x, y, a), (x // 2 * 2, x // 2, a), (x, y, x), (x, x // 2, x // 2)))
                    self.assertIs(machine.holds(**dict(zip("xya", row))), says(*row))

    def test_everything_and_nothing(self):
        for root in ROOTS:
            field = Field(root)
            whole, empty = Machine.everything(field, "x"), Machine.nothing(field, "x")
            other = Machine.everything(field, "y")
            both = Machine.everything(field, "x", "y")
            none = Machine.nothing(field, "y", "x")
            self.assertEqual([whole & other, whole | other, whole - other], [both, both, none])
            self.assertEqual([empty & other, empty | other, empty - other, other - empty], [none, both, none, both])
            self.assertEqual([~whole, ~empty, ~both, ~none], [empty, whole, none, both])
            self.assertEqual([whole & whole, whole | empty, whole - whole], [whole, whole, empty])
            bare, never = Machine.everything(field), Machine.nothing(field)
            self.assertEqual([~bare, ~never, bare & never, bare | never], [never, bare, never, bare])
            self.assertEqual([bare & whole, bare | whole, never & whole, never | whole], [whole, whole, empty, whole])
            self.assertEqual([whole - never, never - whole, bare - whole], [whole, empty, empty])

    def test_laws(self):
        for root in ROOTS:
            one, other = equals(root, x=1, y=-2), less(root, "a", "x")
            self.assertEqual(~~one, one)
            self.assertEqual(one & other, other & one)
            self.assertEqual(one | other, other | one)
            self.assertEqual(~(one & other), ~one | ~other)
            self.assertEqual(one - other, one & ~other)
            self.assertEqual(one | ~one, Machine.everything(Field(root), "x", "y"))
            self.assertEqual(one - one, Machine.nothing(Field(root), "x", "y"))

    def test_errors(self):
        for root in ROOTS:
            field, strange = Field(root), Field(3 if root != 3 else 2)
            for make in (Machine.everything, Machine.nothing):
                one, other = make(field, "d", "c", "b"), make(field, "a", "z", "d")
                for call in (one.__and__, one.__or__, one.__sub__, one.within):
                    self.assertEqual(self.check_error(InvalidVariables, call, other).name, "z")
                    self.assertEqual(self.check_error(InvalidVariables, call, make(field, "e", "f", "g")).name, "f")
                    self.check_error(FieldsDiffer, call, make(strange, "a", "z", "d"))
                    self.check_error(FieldsDiffer, call, make(strange, "b"))
                    self.check_error(FieldsDiffer, call, make(strange))
                four = make(field, "d", "c", "b", "z")
                for call in (four.__and__, four.__or__, four.__sub__, four.within):
                    self.assertIsNone(raised(call, make(field, "z")))
                    self.assertEqual(self.check_error(InvalidVariables, call, make(field, "a")).name, "z")
                    self.assertEqual(self.check_error(InvalidVariables, call, make(field, "zz")).name, "zz")


class WithinTest(Case):
    def test_within(self):
        for root in ROOTS:
            field = Field(root)
            smaller, equal = less(root, "x", "y"), equals(root, x=1, y=-1)
            self.assertIs(smaller.within(~equal), True)
            self.assertIs((~equal).within(smaller), False)
            self.assertIs(smaller.within(smaller), True)
            self.assertIs(equal.within(smaller), False)
            self.assertIs(smaller.within(other=Machine.everything(field)), True)
            self.assertIs(smaller.within(Machine.everything(field, "a")), True)
            self.assertIs(smaller.within(Machine.nothing(field, "a")), False)
            self.assertIs(Machine.nothing(field, "a").within(smaller), True)
            self.assertIs(Machine.everything(field).within(smaller), False)
            self.assertIs((smaller & less(root, "y", "a")).within(less(root, "x", "a")), True)
            self.assertIs(less(root, "x", "a").within(smaller & less(root, "y", "a")), False)


class QuantifierTest(Case):
    def test_some(self):
        for root in ROOTS:
            twice, smaller = equals(root, x=1, y=-2), less(root, "x", "y")
            self.check(twice.some("y"), "x", lambda x: x % 2 == 0, range(40))
            self.check(twice.some("x"), "y", lambda y: True, range(40))
            self.check(smaller.some("x"), "y", lambda y: y > 0, range(40))
            self.check((smaller & equals(root, -5, y=1)).some("y"), "x", lambda x: x < 5, range(40))
            self.check(twice.some("y").some("x"), "", lambda: True)
            self.check((twice & equals(root, -7, x=1)).some("x").some("y"), "", lambda: False)
            thrice = equals(root, 2, x=1, y=-3)
            self.check(thrice.some(name="y"), "x", lambda x: x % 3 == 1, range(40))

    def test_every(self):
        for root in ROOTS:
            twice, smaller = equals(root, x=1, y=-2), less(root, "x", "y")
            self.check(twice.every("y"), "x", lambda x: False)
            self.check(smaller.every("x"), "y", lambda y: False)
            self.check((~smaller).every("x"), "y", lambda y: y == 0, range(40))
            self.check((~twice).every(name="y"), "x", lambda x: x % 2 == 1, range(40))
            five = equals(root, -5, y=1)
            self.check((smaller | ~five).every("y"), "x", lambda x: x < 5, range(40))
            self.check((~twice).every("y").every("x"), "", lambda: False)
            self.check((smaller | ~smaller).every("y").every("x"), "", lambda: True)

    def test_three_names(self):
        for root in (2, 5):
            total = equals(root, x=1, y=1, z=-1)
            self.check(total.some("y"), "xz", lambda x, z: x <= z)
            self.check(total.some("x"), "yz", lambda y, z: y <= z)
            self.check(total.some("z"), "xy", lambda x, y: True)
            self.check((total & equals(root, x=1, y=-1)).some("y"), "xz", lambda x, z: z == 2 * x)
            self.check((~total).every("y"), "xz", lambda x, z: x > z)

    def test_everything_and_nothing(self):
        for root in ROOTS:
            field = Field(root)
            for many in (1, 2, 3):
                names = ("b", "x", "a")[:many]
                for name in names:
                    rest = [other for other in names if other != name]
                    for make in (Machine.everything, Machine.nothing):
                        self.assertEqual(make(field, *names).some(name), make(field, *rest))
                        self.assertEqual(make(field, *names).every(name), make(field, *rest))

    def test_a_name_with_one_number(self):
        # Only single rooms are reached, and the first one again and again.
        for root in ROOTS:
            whole = Machine.everything(Field(root), "x")
            for number in (0, 1, 6):
                self.assertEqual((whole & equals(root, -number, y=1)).some("y"), whole)
                self.assertEqual((whole | ~equals(root, -number, y=1)).every("y"), whole)

    def test_unknown(self):
        for machine in (Machine.everything(Field(5)), Machine.nothing(Field(5), "x", "y"), equals(5, x=1, y=-2)):
            for name in ("a", "xx", "X", "", "r", "all"):
                for call in (machine.some, machine.every):
                    self.assertEqual(self.check_error(UnknownVariable, call, name).name, name)


class FixedTest(Case):
    def test_small_numbers(self):
        for root in ROOTS:
            twice = equals(root, x=1, y=-2)
            for number in range(12):
                self.check(twice.fixed(x=number), "y", lambda y: number == 2 * y, range(12))
                self.check(twice.fixed(y=number), "x", lambda x: x == 2 * number, range(26))
            for x, y in product(range(7), repeat=2):
                self.check(twice.fixed(y=y, x=x), "", lambda: x == 2 * y)
            self.assertEqual(twice.fixed(), twice)

    def test_three_names(self):
        for root in ROOTS:
            machine = equals(root, a=1, x=-2) | less(root, "y", "a")
            for number in (0, 1, 4, 7):
                self.check(machine.fixed(a=number), "xy", lambda x, y: number == 2 * x or y < number)
                self.check(machine.fixed(x=number), "ay", lambda a, y: a == 2 * number or y < a)
                self.check(machine.fixed(y=number), "ax", lambda a, x: a == 2 * x or number < a)
                self.check(machine.fixed(y=2, a=number), "x", lambda x: number == 2 * x or 2 < number)

    def test_rooms_that_are_reached_again(self):
        for root in ROOTS:
            counts = [sum(digit != 0 for digit in Field(root).digits(number)) for number in range(40)]
            even = digit_machine(root, "x", "y")
            self.check(even, "xy", lambda x, y: (counts[x] + counts[y]) % 2 == 0)
            for number in (0, 1, 2, 3, 4, 7, 11, 12, 20, 39):
                self.check(even.fixed(y=number), "x", lambda x: (counts[x] + counts[number]) % 2 == 0, range(40))

    def test_great_numbers(self):
        for root in ROOTS:
            random = seeded(f"fixed {root}")
            twice = equals(root, x=1, y=-2)
            for number in (GREATEST, any_number(random), any_number(random, 20)):
                machine = twice.fixed(x=number)
                self.assertIsNone(wrong_at_least_machine(machine))
                self.assertEqual(bool(machine), number % 2 == 0)
                for y in (number // 2, number // 2 + 1, 0, any_number(random)):
                    self.assertIs(machine.holds(y=y), number == 2 * y)
                half = twice.fixed(y=number // 2)
                self.assertIs(half.holds(x=number // 2 * 2), True)
                self.assertIs(half.holds(x=number // 2), number < 2)

    def test_everything_and_nothing(self):
        for root in ROOTS:
            for make in (Machine.everything, Machine.nothing):
                machine = make(Field(root), "x", "y", "a")
                for number in (0, 1, 5):
                    self.assertEqual(machine.fixed(y=number), make(Field(root), "a", "x"))
                    self.assertEqual(machine.fixed(y=number, x=0), make(Field(root), "a"))
                self.assertEqual(machine.fixed(), machine)
                self.assertEqual(machine.fixed(y=GREATEST, a=0, x=17), make(Field(root)))

    def test_errors(self):
        machine = equals(5, x=1, y=-2)
        for value in NO_NUMBERS:
            self.assertIs(self.check_error(InvalidNumber, machine.fixed, y=value).given, value)
            self.assertIs(self.check_error(InvalidNumber, machine.fixed, y=1, x=value).given, value)
            self.assertIs(self.check_error(InvalidNumber, machine.fixed, y=value, x=-1).given, value)
            self.assertEqual(self.check_error(UnknownVariable, machine.fixed, y=value, a=value).name, "a")
        self.assertEqual(self.check_error(UnknownVariable, machine.fixed, y=1, b=1, a=1).name, "b")
        self.assertEqual(self.check_error(UnknownVariable, machine.fixed, xx=1, y=1).name, "xx")
        self.assertEqual(self.check_error(UnknownVariable, Machine.nothing(Field(2)).fixed, x=1).name, "x")


class RenamedTest(Case):
    def test_other_names(self):
        for root in ROOTS:
            twice = equals(root, x=1, y=-2)
            self.check(twice.renamed(x="z"), "zy", lambda z, y: z == 2 * y)
            self.check(twice.renamed(y="a"), "xa", lambda x, a: x == 2 * a)
            self.check(twice.renamed(y="x", x="y"), "yx", lambda y, x: y == 2 * x)
            self.check(twice.renamed(x="b", y="a"), "ba", lambda b, a: b == 2 * a)
            self.assertEqual(twice.renamed(), twice)
            self.assertEqual(twice.renamed(x="x"), twice)
            self.assertEqual(twice.renamed(x="ab").renamed(ab="x"), twice)

    def test_names_that_become_one(self):
        for root in ROOTS:
            thrice = equals(root, -4, x=3, y=-1)
            self.check(thrice.renamed(x="y"), "y", lambda y: y == 2)
            self.check(thrice.renamed(y="x"), "x", lambda x: x == 2)
            self.check(thrice.renamed(x="k", y="k"), "k", lambda k: k == 2)
            self.check(less(root, "a", "b").renamed(a="b"), "b", lambda b: False)
            machine = equals(root, a=1, x=-2) | less(root, "y", "a")
            self.check(machine.renamed(y="x"), "ax", lambda a, x: a == 2 * x or x < a)
            self.check(machine.renamed(y="a"), "ax", lambda a, x: a == 2 * x)
            self.check(machine.renamed(y="k", a="k"), "kx", lambda k, x: k == 2 * x)
            self.check(machine.renamed(y="k", a="k", x="k"), "k", lambda k: k == 0)

    def test_everything_and_nothing(self):
        for root in ROOTS:
            for make in (Machine.everything, Machine.nothing):
                machine = make(Field(root), "x", "y", "a")
                self.assertEqual(machine.renamed(x="b"), make(Field(root), "b", "y", "a"))
                self.assertEqual(machine.renamed(x="y"), make(Field(root), "y", "a"))
                self.assertEqual(machine.renamed(x="b", y="b", a="b"), make(Field(root), "b"))

    def test_errors(self):
        machine = equals(5, x=1, y=-2)
        for value in NO_VARIABLES:
            self.assertIs(self.check_error(InvalidVariables, machine.renamed, y=value).name, value)
            self.assertIs(self.check_error(InvalidVariables, machine.renamed, y="a", x=value).name, value)
            self.assertIs(self.check_error(InvalidVariables, machine.renamed, y=value, x="all").name, value)
            self.assertEqual(self.check_error(UnknownVariable, machine.renamed, y=value, a=value).name, "a")
        self.assertEqual(self.check_error(UnknownVariable, machine.renamed, y="x", b="c", a="c").name, "b")
        self.assertEqual(self.check_error(UnknownVariable, Machine.nothing(Field(2)).renamed, x="x").name, "x")


class WidenedTest(Case):
    def test_further_names(self):
        for root in ROOTS:
            twice = equals(root, x=1, y=-2)
            self.check(twice.widened("k"), "xyk", lambda x, y, k: x == 2 * y)
            self.check(twice.widened("y", "a", "x", "y"), "xya", lambda x, y, a: x == 2 * y)
            for names in ((), ("x",), ("y", "x", "y", "y", "x", "y")):
                self.assertEqual(twice.widened(*names), twice)
        self.check(equals(5, x=1, y=-2).widened("b", "a"), "xyab", lambda x, y, a, b: x == 2 * y, (0, 1, 2, 3))

    def test_everything_and_nothing(self):
        for root in ROOTS:
            for make in (Machine.everything, Machine.nothing):
                self.assertEqual(make(Field(root)).widened(), make(Field(root)))
                self.assertEqual(make(Field(root)).widened("y", "x"), make(Field(root), "x", "y"))
                self.assertEqual(make(Field(root), "b").widened("c", "b", "a"), make(Field(root), "a", "b", "c"))

    def test_errors(self):
        machine = equals(5, x=1, y=-2)
        for value in NO_VARIABLES:
            self.assertIs(self.check_error(InvalidVariables, machine.widened, value).name, value)
            self.assertIs(self.check_error(InvalidVariables, machine.widened, "a", "x", value, "a").name, value)
            self.assertIs(self.check_error(InvalidVariables, machine.widened, "a", "b", value).name, value)
        self.assertEqual(self.check_error(InvalidVariables, machine.widened, "a", "a").name, "a")
        self.assertEqual(self.check_error(InvalidVariables, machine.widened, "a", "x", "b", "a", "c").name, "a")
        self.assertEqual(self.check_error(InvalidVariables, machine.widened, "b", "y", "a", "c", "b").name, "c")
        self.assertEqual(self.check_error(InvalidVariables, machine.widened, "x", "e", "x", "d", "c").name, "c")
        four = Machine.everything(Field(5), "a", "b", "c", "d")
        self.assertEqual(self.check_error(InvalidVariables, four.widened, "d", "e").name, "e")
        self.assertEqual(four.widened("d", "a", "d", "c"), four)


class ObjectTest(Case):
    def some_machines(self):
        for root in ROOTS:
            field = Field(root)
            for names in ((), ("x",), ("y",), ("x", "y")):
                yield Machine.everything(field, *names)
                yield Machine.nothing(field, *names)
            yield equals(root, x=1, y=-2)
            yield equals(root, x=-2, y=1)
            yield less(root, "x", "y")

    def test_equality(self):
        machines, again = list(self.some_machines()), list(self.some_machines())
        for at, one in enumerate(machines):
            for other_at, other in enumerate(again):
                parts = [(m.field, m.names(), m.rows(), m.answers()) for m in (one, other)]
                self.assertEqual(one == other, parts[0] == parts[1])
                self.assertEqual(one == other, at == other_at)
                self.assertEqual(one != other, at != other_at)

    def test_equal_if_true_of_the_same(self):
        for root in ROOTS:
            twice = equals(root, x=1, y=-2)
            self.assertEqual(twice, equals(root, x=3, y=-6))
            self.assertEqual(twice, equals(root, x=-1, y=2))
            self.assertEqual(equals(root, x=1, y=-1), ~(less(root, "x", "y") | less(root, "y", "x")))
            self.assertNotEqual(twice, twice.renamed(x="y", y="x"))

    def test_equals_nothing_else(self):
        machine = equals(5, x=1, y=-2)
        for value in (*NO_INTEGERS, 5, Field(5), repr(machine), machine.rows(), Machine):
            self.assertFalse(machine == value)
            self.assertFalse(value == machine)
            self.assertTrue(machine != value)

    def test_len_bool_and_repr(self):
        for machine in self.some_machines():
            self.assertEqual(len(machine), len(machine.rows()))
            self.assertIs(bool(machine), any(machine.answers()))
            self.assertEqual(repr(machine), f"Machine({len(machine.names())} names, {len(machine)} rooms)")
        self.assertEqual(repr(Machine.nothing(Field(5), "x")), "Machine(1 names, 1 rooms)")
        self.assertEqual(repr(Machine.everything(Field(5), "x", "y")), "Machine(2 names, 5 rooms)")
        self.assertIs(bool(equals(5, 1, x=1)), False)
        self.assertIs(bool(equals(5, -1, x=1)), True)

    def test_new_lists(self):
        for machine in self.some_machines():
            rows, answers, names = machine.rows(), machine.answers(), machine.names()
            self.assertTrue(all(type(part) is list for part in (rows, answers, names, *rows)))
            kept = [list(row) for row in rows], list(answers), list(names)
            for row in rows:
                row.append(7)
                row[0] = -1
            rows.append([])
            answers.insert(0, None)
            names.append("q")
            self.assertEqual((machine.rows(), machine.answers(), machine.names()), kept)

    def test_never_changes(self):
        machine = equals(5, x=1, y=-2)
        kept = machine.names(), machine.rows(), machine.answers()
        other = less(5, "x", "y")
        for made in (machine & other, machine | other, machine - other, ~machine, machine.some("x"), machine.every("y"),
                     machine.fixed(x=4), machine.renamed(x="y"), machine.widened("a"), machine.within(other)):
            self.assertEqual((machine.names(), machine.rows(), machine.answers()), kept)
        self.assertEqual(other, less(5, "x", "y"))
        with self.assertRaises(AttributeError):
            machine.field = Field(2)


if __name__ == "__main__":
    unittest.main()

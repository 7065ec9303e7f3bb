"""Point 9, on the machines of sayings: rooms, rows, operators, names and numbers in their places."""

import unittest
from itertools import product

from helpers import (
    NO_NUMBERS, NO_VARIABLES, PERIODS, ROOTS, all_letters, answer_of, any_number, near_rows, raised, seeded,
    truth, wrong_at_least_machine,
)
from rootfloor.compiling import compiled
from rootfloor.errors import (
    FieldsDiffer, InvalidNumber, InvalidRow, InvalidVariables, UnknownVariable,
)
from rootfloor.fields import Field
from rootfloor.machines import Machine
from rootfloor.texts import read_saying

ONE = ("leaves(x, 4, 1)", "(x < 9 or leaves(floor(r, x), 3, 2))", "not x = 12")
TWO = ("floor(r, x) = y", "2*x < 3*y + 1", "leaves(x + 2*y, 3, 2)", "(x = y or floor((1+r)/2, y) < x)")
THREE = ("x + y = z", "x + 2*y < z", "(x < y and leaves(z, 2, 1))")
ALL = (*ONE, *TWO, *THREE)


def said(root, text):
    return compiled(Field(root), read_saying(text))


class Case(unittest.TestCase):
    def check_error(self, kind, call, *items, **named):
        error = raised(call, *items, **named)
        self.assertIs(type(error), kind)
        return error

    def check(self, root, machine, names, says, most=7, rows=20):
        """Whether a machine is a least one with these names, and true of the rows for which a function says so."""
        self.assertIs(type(machine), Machine)
        self.assertEqual((machine.field, machine.names()), (Field(root), sorted(names)))
        if (max(PERIODS[root]) + 1) ** len(names) <= 125:
            self.assertIsNone(wrong_at_least_machine(machine))
        for numbers in product(range(most), repeat=len(names)):
            row = dict(zip(sorted(names), numbers))
            self.assertIs(machine.is_true(row), says(row), row)
        for row in near_rows(seeded(f"{root} {names}"), names, rows):
            self.assertIs(machine.is_true(row), says(row), row)


def truth_of(root, text):
    saying = read_saying(text)
    return lambda row: truth(root, saying, row)


class RoomTest(Case):
    def test_rooms(self):
        for root in ROOTS:
            for text in ALL:
                machine = said(root, text)
                self.assertIsNone(wrong_at_least_machine(machine))
                letters = all_letters(root, len(machine.names()))
                self.assertEqual([machine.digits_of(index) for index in range(len(letters))], letters)
                for wrong in (len(letters), -1, *NO_NUMBERS):
                    self.assertIs(self.check_error(InvalidNumber, machine.digits_of, wrong).given, wrong)
                rows, answers, names = machine.rows(), machine.answers(), machine.names()
                self.assertEqual(len(machine), len(rows))
                self.assertEqual(repr(machine), f"Machine({len(names)} names, {len(rows)} rooms)")
                for told in (rows, answers, names, rows[0]):
                    self.assertIs(type(told), list)
                    told.append(5)
                rows[1][0] = -1
                self.assertIs(machine.rows() is machine.rows(), False)
                self.assertEqual(machine, said(root, text))
                self.assertIsNone(wrong_at_least_machine(machine))

    def test_rows_are_read(self):
        for root in ROOTS:
            for text in ALL:
                machine, says = said(root, text), truth_of(root, text)
                names = machine.names()
                for row in near_rows(seeded(f"rows {text}"), names, 25):
                    wanted = answer_of(machine, [row[name] for name in names])
                    self.assertIs(wanted, says(row))
                    more = {**row, "other": None, "k": -3, "X": True}
                    before = dict(more)
                    self.assertIs(machine.is_true(values=more), wanted)
                    self.assertIs(more in machine, wanted)
                    self.assertIs(machine.holds(**row, k=3), wanted)
                    self.assertEqual((more, list(more)), (before, list(before)))

    def test_digits_and_zeros(self):
        for root in ROOTS:
            for text in ALL:
                machine = said(root, text)
                rows, answers = machine.rows(), machine.answers()
                for room, row in enumerate(rows):
                    self.assertEqual(answers[room], answers[row[0]])

    def test_wrong_rows(self):
        for root in (2, 5):
            machine = said(root, "x + 2*y < z")
            for wrong in NO_NUMBERS:
                for row, name in (({"x": wrong, "y": wrong, "z": 1}, "x"), ({"x": 1, "z": wrong}, "y"), ({"x": 1, "y": 2, "z": wrong}, "z")):
                    self.assertEqual(self.check_error(InvalidRow, machine.is_true, row).name, name)
                    self.assertEqual(self.check_error(InvalidRow, machine.holds, **row).name, name)
                    self.assertEqual(self.check_error(InvalidRow, machine.__contains__, row).name, name)


class OperatorTest(Case):
    def test_two_sides(self):
        for root in ROOTS:
            for one, other in ((ONE[0], ONE[1]), (TWO[0], TWO[1]), (TWO[2], TWO[3]), (ONE[0], TWO[1]), ("y < ab", TWO[0])):
                first, second = said(root, one), said(root, other)
                rows_before = (first.rows(), second.rows(), first.names(), second.names())
                p, q = truth_of(root, one), truth_of(root, other)
                names = sorted({*first.names(), *second.names()})
                most = 6 if len(names) < 3 else 4
                self.check(root, first & second, names, lambda row: p(row) and q(row), most, 10)
                self.check(root, first | second, names, lambda row: p(row) or q(row), most, 10)
                self.check(root, first - second, names, lambda row: p(row) and not q(row), most, 10)
                self.check(root, ~first, first.names(), lambda row: not p(row), most, 10)
                self.assertIs(first.within(first | second), True)
                self.assertIs((first & second).within(other=second), True)
                self.assertIs(first.within(second), not bool(first - second))
                self.assertEqual((first.rows(), second.rows(), first.names(), second.names()), rows_before)

    def test_sets(self):
        for root in ROOTS:
            for a, b, c in ((*ONE,), (TWO[0], TWO[1], ONE[0]), (TWO[2], TWO[3], "x < y + 3")):
                a, b, c = said(root, a), said(root, b), said(root, c)
                self.assertEqual(a & (b | c), (a & b) | (a & c))
                self.assertEqual(a | (b & c), (a | b) & (a | c))
                self.assertEqual(~(a & b & c), ~a | ~b | ~c)
                self.assertEqual((a - b) - c, a - (b | c))
                self.assertEqual(a - (b - c), (a - b) | (a & c))
                self.assertEqual((a & b) & c, a & (b & c))
                self.assertEqual((a | b) | c, a | (b | c))
                self.assertEqual(~~a, a)

    def test_many_names(self):
        for root in ROOTS:
            one, other = said(root, "x < y"), said(root, "ab = 2*k")
            for joint, says in (
                (one & other, lambda x, y, ab, k: x < y and ab == 2 * k), (one - other, lambda x, y, ab, k: x < y and ab != 2 * k),
                (one | other, lambda x, y, ab, k: x < y or ab == 2 * k),
            ):
                self.assertEqual(joint.names(), ["ab", "k", "x", "y"])
                for row in near_rows(seeded(f"four {root}"), ("ab", "k", "x", "y"), 30):
                    self.assertIs(joint.is_true(row), says(**row))
            four = one & other
            strange = said(3 if root != 3 else 2, "a + b = c")
            for call in (one.__and__, one.__or__, one.__sub__, one.within):
                self.assertEqual(self.check_error(InvalidVariables, call, said(root, "a + b = c")).name, "y")
                self.check_error(FieldsDiffer, call, strange)
            for call in (four.__and__, four.__or__, four.__sub__, four.within):
                self.assertEqual(self.check_error(InvalidVariables, call, said(root, "z = 1")).name, "z")
                self.assertEqual(self.check_error(InvalidVariables, call, said(root, "a = b")).name, "x")
                self.check_error(FieldsDiffer, call, strange)

    def test_widened(self):
        for root in ROOTS:
            for text in (*ONE, *TWO[:2]):
                machine, says = said(root, text), truth_of(root, text)
                wide = machine.widened("k", "x")
                self.check(root, wide, [*machine.names(), "k"], says, 5)
                self.assertEqual(machine.widened(*machine.names(), *machine.names()), machine)
                for names, wrong in ((("k", "k"), "k"), (("k", "x", "R"), "R"), (("a", "b", "c", "d"), "d" if len(machine.names()) == 1 else "c")):
                    self.assertEqual(self.check_error(InvalidVariables, machine.widened, *names).name, wrong)

    def test_equality(self):
        for root in ROOTS:
            machine = said(root, "x < y")
            self.assertTrue(machine == said(root, "not (y < x or y = x)"))
            self.assertFalse(machine != said(root, "not (y < x or y = x)"))
            for other in (said(root, "x < y + 1"), said(root, "x < z"), said(root, "y < x"), said(2 if root != 2 else 5, "x < y"),
                          machine.widened("k"), ~machine, "x < y", None, 5, machine.rows(), ()):
                self.assertFalse(machine == other)
                self.assertTrue(machine != other)
            self.assertIs(bool(machine), True)
            self.assertIs(bool(said(root, "(x < y and y < x)")), False)
            self.assertIs(bool(said(root, "1 = 1")), True)
            self.assertIs(bool(said(root, "1 = 2")), False)


class NameTest(Case):
    def test_some_and_every(self):
        for root in ROOTS:
            for text, bound in (
                ("(x + y = 9 and y < 4)", 12), ("(x < 8 and floor(r, y) < x)", 12), ("(y < 7 and x = 2*y)", 8), ("(x < 5 or y < x)", None),
                ("(not y < 6 or x < 2*y + 3)", 8), ("(x + y = z and z < 6)", 8), ("(not y < 4 or x < z + y)", 8),
            ):
                machine, says = said(root, text), truth_of(root, text)
                others = [name for name in machine.names() if name != "y"]
                # A saying that begins with "not" holds for all numbers from its bound on.
                great = text.startswith("(not")
                if bound:
                    self.check(root, machine.some(name="y"), others,
                               lambda row: great or any(says({**row, "y": y}) for y in range(bound)), 8, 0)
                self.check(root, machine.every("y"), others,
                           lambda row: all(says({**row, "y": y}) for y in range(40)), 8, 0)
            for name in ("k", "", "X", "r", "xy"):
                for call in (machine.some, machine.every):
                    self.assertEqual(self.check_error(UnknownVariable, call, name).name, name)

    def test_fixed(self):
        for root in ROOTS:
            random = seeded(f"fixed {root}")
            for text in (*TWO, *THREE):
                machine, says = said(root, text), truth_of(root, text)
                names = machine.names()
                for _ in range(4):
                    many = random.randint(1, len(names))
                    picked = {name: any_number(random, random.choice((1, 30))) for name in random.sample(names, many)}
                    rest = [name for name in names if name not in picked]
                    self.check(root, machine.fixed(**picked), rest, lambda row: says({**row, **picked}), 5, 6)
                self.assertEqual(machine.fixed(), machine)
            machine = said(root, "x + 2*y < z")
            self.assertEqual(self.check_error(UnknownVariable, machine.fixed, y=-1, k=3, a=2).name, "k")
            self.assertEqual(self.check_error(UnknownVariable, machine.fixed, a=3, k=2).name, "a")
            for wrong in NO_NUMBERS:
                self.assertIs(self.check_error(InvalidNumber, machine.fixed, z=4, x=wrong, y=-1).given, wrong)
                self.assertEqual(self.check_error(UnknownVariable, machine.fixed, x=wrong, ab=1).name, "ab")

    def test_renamed(self):
        for root in ROOTS:
            for text in (*TWO, "x + 2*y < z"):
                machine, says = said(root, text), truth_of(root, text)
                names = machine.names()
                swapped = machine.renamed(x="y", y="x")
                self.check(root, swapped, names, lambda row: says({**row, "x": row["y"], "y": row["x"]}), 5)
                one = machine.renamed(x="y")
                self.check(root, one, [name for name in names if name != "x"], lambda row: says({**row, "x": row["y"]}), 9)
                both = machine.renamed(x="ab", y="ab")
                rest = ["ab", *[name for name in names if name not in "xy"]]
                self.check(root, both, rest, lambda row: says({**row, "x": row["ab"], "y": row["ab"]}), 9)
                moved = machine.renamed(y="a", x="k")
                self.assertEqual(moved.renamed(k="x", a="y"), machine)
                self.assertEqual(machine.renamed(x="x"), machine)
            machine = said(root, "x < y")
            self.assertEqual(self.check_error(UnknownVariable, machine.renamed, x="all", k="x", a="b").name, "k")
            self.assertEqual(self.check_error(UnknownVariable, machine.renamed, a="b", k="c").name, "a")
            for wrong in NO_VARIABLES:
                self.assertIs(self.check_error(InvalidVariables, machine.renamed, y=wrong, x="all").name, wrong)


if __name__ == "__main__":
    unittest.main()

"""Points 3, 10, 11, 14 and the interface of answering: what sayings hold for."""

import unittest
from itertools import product

from helpers import NO_NUMBERS, ROOTS, any_number, floor_at, free_in, raised, seeded, truth
from rootfloor.answering import against, alike, decide, example, is_function, parting, reply, value_of
from rootfloor.compiling import compiled, floor_machine
from rootfloor.errors import (
    FreeVariable, InvalidRow, InvalidSaying, InvalidVariables, NoTurn, NotFunction, TooMany, UnknownName, UnknownVariable,
    WrongCount,
)
from rootfloor.fields import Field
from rootfloor.machines import Machine
from rootfloor.texts import read_saying

SINGLE = (example, against, decide)


def said(root, text, **named):
    return compiled(Field(root), read_saying(text), **named)


def known_in(root):
    return {
        "even": (("x",), said(root, "leaves(x, 2, 0)")), "total": (("z", "x", "y"), said(root, "x + y = z")),
        "never": ((), Machine.nothing(Field(root))),
    }


class Case(unittest.TestCase):
    def check_error(self, kind, call, *items, **named):
        error = raised(call, *items, **named)
        self.assertIs(type(error), kind)
        return error


class DecideTest(Case):
    def test_all_numbers(self):
        for root in ROOTS:
            field, known = Field(root), known_in(root)
            for text, wanted in (
                ("all x some y (x = 2*y or x = 2*y + 1)", True), ("all x some y x = 2*y", False),
                ("all x all y (x < y or y < x or x = y)", True), ("some x all y not y < x", True),
                ("some x all y y < x", False), ("all x floor(r, x) < 4*x + 1", True), ("all x floor(r, x) < 4*x", False),
                ("all x (x = 0 or under(floor(r, x), r, x))", True), ("some x (under(x, r, x) and x = 0)", False),
                ("all x all y floor(r, x + y) = floor(r, x) + floor(r, y)", False),
                ("all x not floor(r, 2*x) < 2*floor(r, x)", True), ("all x floor(r, 2*x) < 2*floor(r, x) + 2", True),
                ("all x floor(2, x) = 2*x", True), ("some x (9*x = 1000 or 8*x = 1000)", True), ("1 = 1", True),
                ("(1 = 1 and 2 < 1)", False), ("not never()", True),
                ("all x some z total(z, x, x)", True), ("all z some x total(z, x, x)", False),
            ):
                saying = read_saying(text)
                self.assertIs(decide(field, saying, known=known), wanted, text)
                self.assertIs(decide(field=field, saying=("not", saying), known=known), not wanted, text)

    def test_floors_meet_the_numbers(self):
        # The floors of z(0) x and of their other numbers are all numbers above 0, each once.
        for root, one, other in ((5, "(1+r)/2", "(3+r)/2"), (2, "r", "2+r")):
            text = f"all x (x = 0 or some y (0 < y and (floor({one}, y) = x or floor({other}, y) = x)))"
            self.assertIs(decide(Field(root), read_saying(text)), True)
            text = f"some x some y (0 < x and 0 < y and floor({one}, y) = floor({other}, x))"
            self.assertIs(decide(Field(root), read_saying(text)), False)

    def test_free_variables(self):
        for call in SINGLE:
            for text, name in (("x < y", "x"), ("some x y < x", "y"), ("all x (even(y) or ab < x)", "ab")):
                error = self.check_error(FreeVariable, call, Field(5), read_saying(text), known=known_in(5))
                self.assertEqual(error.name, name)


class TurnTest(Case):
    def test_examples(self):
        for root in ROOTS:
            for text, bound in (
                ("some x 5 < x", 9), ("some x some y (x + y = 7 and not 2*x < y)", 9), ("some y some x (x + y = 7 and x < y)", 9),
                ("some x some y some z (x + y < z and leaves(x, 3, 2))", 9), ("some x x < 0", 5), ("some z (z = 3 and all x z < x + 4)", 9),
                ("some b some a (floor(r, a) = b + 3 and 2 < b)", 30), ("some x some y 2*y = 2*x + 1", 6), ("some x some y x = 3", 6),
            ):
                saying = read_saying(text)
                names, rest = [], saying
                while rest[0] == "some":
                    names, rest = [*names, rest[1]], rest[2]
                rows = product(range(bound), repeat=len(names))
                wanted = next((list(row) for row in rows if truth(root, rest, dict(zip(names, row)), bound)), None)
                self.assertEqual(example(Field(root), saying), wanted, text)
                opposite = ("not", rest)
                for name in reversed(names):
                    opposite = ("all", name, opposite)
                self.assertEqual(against(Field(root), opposite), wanted, text)
                self.check_error(NoTurn, against, Field(root), saying)
                self.check_error(NoTurn, example, Field(root), opposite)
            self.check_error(NoTurn, example, Field(root), read_saying("(1 = 1 and 1 = 2)"))
            self.check_error(NoTurn, against, Field(root), read_saying("not some x x = 2"))
            self.assertEqual(example(Field(root), read_saying("some x all y (x = 4 and y < y + x)")), [4])
            self.assertEqual(against(Field(root), read_saying("all x some y (x < 6 and x = y)")), [6])

    def test_with_known_sayings(self):
        for root in ROOTS:
            known = known_in(root)
            self.assertEqual(example(Field(root), read_saying("some x (even(x) and 4 < x)"), known=known), [6])
            self.assertEqual(against(Field(root), read_saying("all x all y (even(x) or total(y, x, x))"), known=known), [1, 0])
            self.assertIsNone(against(Field(root), read_saying("all x not never()"), known=known))
            self.assertEqual(example(Field(root), read_saying("some z some x (total(z, x, x) and 5 < x)"), known=known), [12, 6])

    def test_great_numbers(self):
        for root in ROOTS:
            known = {"last": (("x",), said(root, "x = 1"))}
            for _ in range(30):
                known["last"] = (("x",), said(root, "some y (x = 9*y + 2 and last(y))", known=known))
            wanted = 9 ** 30 + (9 ** 30 - 1) // 4
            found = example(Field(root), read_saying("some x some y (last(y) and floor(r, y) < x)"), known=known)
            self.assertEqual(found, [floor_at(root, (0, 1, 1), wanted) + 1, wanted])

    def test_errors_in_order(self):
        for call in SINGLE:
            error = self.check_error(InvalidSaying, call, Field(2), ("some", "x", ("less", 1, 2)))
            self.assertEqual(error.number, 1)
            error = self.check_error(UnknownName, call, Field(2), read_saying("(y = x and strange(x))"), known=known_in(2))
            self.assertEqual(error.name, "strange")
            self.check_error(UnknownName, call, Field(2), read_saying("even(x)"))
            error = self.check_error(WrongCount, call, Field(2), read_saying("(even(x, y) and strange(x))"), known=known_in(2))
            self.assertEqual(error.name, "even")
            self.check_error(FreeVariable, call, Field(2), read_saying("x = 1"))
        for word in ("some", "all"):
            saying = ("not", ("not", read_saying(f"{word} x x = 1")))
            self.check_error(NoTurn, example, Field(2), saying)
            self.check_error(NoTurn, against, Field(2), saying)


class ReplyTest(Case):
    def test_rows(self):
        for root in ROOTS:
            for text, least in (
                ("some x y < 2*x", lambda y, ab: y // 2 + 1), ("some x x + y = ab", lambda y, ab: ab - y if y <= ab else None),
                ("all x not x = y + ab", lambda y, ab: y + ab), ("all x x < y + 1", lambda y, ab: y + 1),
                ("some x floor(r, x) = y", None), ("all x ab < 2*ab + 1", lambda y, ab: None), ("some x y = y", lambda y, ab: 0),
                ("some x (ab < x and leaves(x, 3, 1) and y = y)", lambda y, ab: ab + 1 + (-ab) % 3),
            ):
                random = seeded(f"reply {root} {text}")
                saying = read_saying(text)
                for _ in range(6):
                    y, ab = any_number(random, random.choice((1, 2, 30))), any_number(random, random.choice((1, 2, 30)))
                    values = {"y": y, "ab": ab, "x": None, "other": 5}
                    if least is None:
                        # y is less than r x, and r x less than y + 1.
                        y = values["y"] = random.choice((y, floor_at(root, (0, 1, 1), y)))
                        near = floor_at(root, (0, 1, root), y)
                        found = [x for x in range(max(0, near - 3), near + 4) if floor_at(root, (0, 1, 1), x) == y]
                        wanted = min(found, default=None)
                    else:
                        wanted = least(y, ab)
                    before = dict(values)
                    self.assertEqual(reply(Field(root), saying, values), wanted)
                    self.assertEqual(values, before)

    def test_errors(self):
        field = Field(5)
        saying = read_saying("some x y + ab < x")
        for wrong in NO_NUMBERS:
            error = self.check_error(InvalidRow, reply, field, saying, {"y": wrong, "ab": 3})
            self.assertEqual(error.name, "y")
            error = self.check_error(InvalidRow, reply, field, saying, {"y": wrong, "ab": wrong})
            self.assertEqual(error.name, "ab")
        self.assertEqual(self.check_error(InvalidRow, reply, field, saying, values={}).name, "ab")
        for text in ("x = 1", "not some x x = 1", "(x = 1 and all y y = x)"):
            self.check_error(NoTurn, reply, field, read_saying(text), {})
        self.check_error(UnknownName, reply, field, read_saying("strange(x)"), {})
        self.check_error(WrongCount, reply, field, read_saying("(even(x) and even())"), {}, known=known_in(5))
        self.check_error(InvalidSaying, reply, field, ("some", "x"), {})
        self.assertEqual(reply(field, read_saying("some x (even(x) and y < x)"), {"y": 7}, known=known_in(5)), 8)


class ParityTest(Case):
    def test_alike(self):
        for root in ROOTS:
            field = Field(root)
            one, two, three = (read_saying(text) for text in ("x < y", "not (y < x or x = y)", "(x < y or x = y)"))
            self.assertIs(alike(field), True)
            self.assertIs(alike(field, three), True)
            self.assertIs(alike(field, one, two), True)
            self.assertIs(alike(field, one, two, three), False)
            self.assertIs(alike(field, one, three, two), False)
            self.assertIs(alike(field, read_saying("x = x"), read_saying("y = y"), read_saying("1 = 1")), True)
            self.assertIs(alike(field, read_saying("x = 2"), read_saying("y = 2")), False)
            self.assertIs(alike(field, read_saying("even(x)"), read_saying("leaves(x, 2, 0)"), known=known_in(root)), True)
            self.assertIs(alike(field, read_saying("total(x, y, z)"), read_saying("y + z = x"), known=known_in(root)), True)
            self.assertIs(alike(field, read_saying("x + y < z"), read_saying("x + ab < z")), False)
            self.assertIs(alike(field, read_saying("(x < 0 and y + z < 9)"), read_saying("ab < 0")), True)

    def test_parting(self):
        for root in ROOTS:
            for one, other in (
                ("x < y", "x < y + 1"), ("x < y", "not (y < x or x = y)"), ("leaves(x, 3, 1)", "leaves(x, 6, 1)"),
                ("x = x", "1 < 0"), ("x < y", "y < ab"), ("x + y = z", "x + ab = z"), ("floor(r, x) = y", "y = x"), ("1 = 1", "2 = 2"),
                ("1 = 1", "2 = 1"), ("4 < x", "y < 3"),
            ):
                first, second = read_saying(one), read_saying(other)
                names = sorted({*free_in(first), *free_in(second)})
                rows = (dict(zip(names, row)) for row in product(range(12 if len(names) < 3 else 4), repeat=len(names)))
                wanted = next((row for row in rows if truth(root, first, row) != truth(root, second, row)), None)
                found = parting(Field(root), first, second)
                self.assertEqual(found, wanted)
                self.assertEqual(list(found or {}), names if found else [])
                self.assertEqual(parting(field=Field(root), one=second, other=first, known={}), wanted)
            found = parting(Field(root), read_saying("even(x)"), read_saying("x < 5"), known=known_in(root))
            self.assertEqual(found, {"x": 1})

    def test_errors(self):
        field = Field(5)
        three, more = read_saying("x + y = z"), read_saying("a + b = c")
        error = self.check_error(InvalidVariables, parting, field, three, more)
        self.assertEqual(error.name, "y")
        error = self.check_error(InvalidVariables, alike, field, three, read_saying("x = 2"), read_saying("x + k < m"))
        self.assertEqual(error.name, "z")
        self.assertIs(alike(field, read_saying("x = 1"), three, more), False)
        for call in (alike, parting):
            bent = ("less", 1, 2)
            self.check_error(InvalidSaying, call, field, bent, read_saying("strange()"))
            self.check_error(UnknownName, call, field, read_saying("strange()"), bent)
            self.check_error(InvalidSaying, call, field, three, bent)
            self.check_error(WrongCount, call, field, three, read_saying("even()"), known=known_in(5))
        self.check_error(InvalidSaying, alike, field, bent)
        self.check_error(UnknownName, alike, field, three, more, read_saying("strange()"))


class FunctionTest(Case):
    def test_functions(self):
        for root in ROOTS:
            for text, count in (
                ("y = x + 3", lambda x: x + 3), ("y = 2*x + ab", lambda x, ab: 2 * x + ab), ("3*x = y", lambda x: 3 * x),
                ("floor(r, x) = y", lambda x: floor_at(root, (0, 1, 1), x)),
                ("floor(r, floor((1+r)/2, x)) = y", lambda x: floor_at(root, (0, 1, 1), floor_at(root, (1, 1, 2), x))),
                ("((y = x and x < 5) or (y = 7 and not x < 5))", lambda x: x if x < 5 else 7), ("y = 4", lambda: 4),
            ):
                machine = said(root, text)
                self.assertIs(is_function(machine, "y"), True)
                random = seeded(f"values {root} {text}")
                names = [name for name in machine.names() if name != "y"]
                for _ in range(8):
                    row = {name: any_number(random, random.choice((1, 30))) for name in names}
                    self.assertEqual(value_of(machine, "y", {**row, "y": None, "k": 3}), count(**row))
            self.assertIs(is_function(machine=floor_machine(Field(root), (1, 1, 2)), name="y"), True)

    def test_spoilt_ones(self):
        for root in ROOTS:
            machine = said(root, "floor(r, x) = y")
            for spoilt, x in (
                (machine - said(root, "x = 7"), 7), (machine | said(root, "(x = 9 and y = 2)"), 9), (said(root, "x = 2*y"), 5),
                (said(root, "x < y"), 3), (said(root, "y < x"), 8), (machine & said(root, "x < 1000"), 1000),
                (said(root, "(y = x or y = x + 1000)"), 10 ** 29),
            ):
                self.assertIs(is_function(spoilt, "y"), False)
                self.assertEqual(self.check_error(NotFunction, value_of, spoilt, "y", {"x": x}).name, "y")
            self.assertEqual(value_of(machine - said(root, "x = 7"), "y", {"x": 8}), floor_at(root, (0, 1, 1), 8))
            self.assertIs(is_function(Machine.nothing(Field(root), "x", "y"), "y"), False)
            self.assertIs(is_function(Machine.everything(Field(root), "x"), "x"), False)
            self.assertIs(is_function(said(root, "x = 4"), "x"), True)
            self.assertIs(is_function(said(root, "(x = 4 or x = 5)"), "x"), False)

    def test_four_names(self):
        for root in (2, 5):
            machine = said(root, "x + y = z").widened("ab")
            self.assertIs(is_function(machine, "z"), True)
            self.assertIs(is_function(machine, "ab"), False)
            self.assertEqual(value_of(machine, "z", {"x": 3, "y": 10 ** 30, "ab": 0}), 10 ** 30 + 3)

    def test_numbers_beyond_what_can_be_passed(self):
        machine = said(5, "y = 9*x")
        self.assertEqual(value_of(machine, "y", {"x": 10 ** 40 - 1}), 9 * 10 ** 40 - 9)

    def test_errors(self):
        machine = said(5, "x + ab = y")
        for name in ("z", "", "r", "xy"):
            self.assertEqual(self.check_error(UnknownVariable, is_function, machine, name).name, name)
            self.assertEqual(self.check_error(UnknownVariable, value_of, machine, name, {}).name, name)
        for wrong in NO_NUMBERS:
            self.assertEqual(self.check_error(InvalidRow, value_of, machine, "y", {"x": wrong}).name, "ab")
            self.assertEqual(self.check_error(InvalidRow, value_of, machine, "y", {"x": wrong, "ab": 1}).name, "x")
            self.assertEqual(self.check_error(InvalidRow, value_of, machine, "x", {"ab": wrong, "y": wrong}).name, "ab")
        self.assertEqual(self.check_error(NotFunction, value_of, machine, "x", {"ab": 5, "y": 4}).name, "x")


class LimitTest(Case):
    def test_too_many(self):
        saying = read_saying("(leaves(x, 5, 1) and leaves(x, 7, 2) and leaves(x, 9, 3))")
        for call, items in ((decide, ()), (example, ()), (against, ()), (reply, ({},)), (alike, ()), (parting, (saying,))):
            self.assertEqual(self.check_error(TooMany, call, Field(5), saying, *items).limit, 20000)


if __name__ == "__main__":
    unittest.main()

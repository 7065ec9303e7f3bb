"""Points 3, 10, 11, 13 and the interface of compiling: the machines of sayings, and the errors."""

import unittest
from itertools import product

from helpers import (
    GREATEST, NO_VARIABLES, ROOTS, SLOPES, any_number, any_saying, floor_at, free_in, near_rows, raised, seeded, truth,
    with_parts, wrong_at_least_machine,
)
from rootfloor import compiling
from rootfloor.compiling import compiled, floor_machine
from rootfloor.errors import (
    FreeVariable, InvalidSaying, InvalidSlope, InvalidVariables, TooMany, UnknownName, WrongCount,
)
from rootfloor.fields import Field
from rootfloor.machines import Machine
from rootfloor.sayings import parts_of
from rootfloor.texts import read_saying, saying_text

FACTORS = (-9, -4, -3, -2, -1, 1, 1, 2, 3, 5, 9)


def said(root, text, **named):
    return compiled(Field(root), read_saying(text), **named)


class Case(unittest.TestCase):
    def check(self, root, saying, *, most=6, rows=20, bound=0, least=True, uses=None, known=None):
        """Whether the machine of a saying is true of the rows for which the values of its terms say so."""
        if isinstance(saying, str):
            saying = read_saying(saying)
        machine = compiled(Field(root), saying, known=known)
        self.assertIs(type(machine), Machine)
        names = free_in(saying)
        self.assertEqual(machine.names(), names)
        if least:
            self.assertIsNone(wrong_at_least_machine(machine))
        for numbers in product(range(most), repeat=len(names)):
            row = dict(zip(names, numbers))
            self.assertIs(machine.is_true(row), truth(root, saying, row, bound, uses), (root, saying, row))
        for row in near_rows(seeded(saying_text(saying)), names, rows):
            self.assertIs(machine.is_true(row), truth(root, saying, row, bound, uses), (root, saying, row))
        return machine

    def check_error(self, kind, call, *items, **named):
        error = raised(call, *items, **named)
        self.assertIs(type(error), kind)
        return error


class ComparisonTest(Case):
    def test_equal_and_less(self):
        for root in ROOTS:
            random = seeded(f"sums {root}")
            for word in ("equal", "less"):
                for many in (0, 1, 2, 3, 1, 2, 3):
                    one = tuple((random.choice(FACTORS[3:-2]), name) for name in ("x", "ab", "y")[:many])
                    other = tuple((random.choice((-2, -1, 1, 3)), name) for name in random.sample("xyz", 1) if many > 1)
                    if many == 3 and other:
                        other = ((other[0][0], "x"),)
                    saying = (word, (one, random.randint(-20, 20)), (other, random.randint(-3, 3)))
                    self.check(root, saying, least=many < 3)

    def test_great_factors_and_constants(self):
        for root in ROOTS:
            for text in (
                "9*x - 7*y = 1000", "x + 1000 < y", "9*x < 4*y - 8", "x = x + 1", "x < x + 1", "2*x - 2*x = y", "3 = 3",
                "0 < -5", "x + x + x = 3*x", "1000 = 7*x + 6", "-9*x - 9*y = -1000", "-x < y",
            ):
                self.check(root, text, most=12, rows=30, least=root in (2, 5))

    def test_the_equation_of_near_numbers(self):
        for root in ROOTS:
            machine = said(root, "3*x = 2*y + z + 7")
            random = seeded(f"near {root}")
            for _ in range(40):
                y, z = any_number(random, 38), any_number(random, 38)
                z += (2 * y + z + 7) % 3 * 2
                z += -(2 * y + z + 7) % 3
                self.assertTrue(machine.holds(x=(2 * y + z + 7) // 3, y=y, z=z))
                self.assertFalse(machine.holds(x=(2 * y + z + 7) // 3 + 1, y=y, z=z))

    def test_leaves(self):
        for root in ROOTS:
            for divisor in range(2, 10):
                self.check(root, f"leaves(2*x - 3*y + 1, {divisor}, {divisor // 2})", rows=12, least=False)
            for text in ("leaves(x, 9, 8)", "leaves(-x - 5, 4, 3)", "leaves(7, 7, 0)", "leaves(x + y + ab, 3, 1)"):
                self.check(root, text, most=10 if "y" not in text else 4, rows=20)

    def test_under(self):
        for root in ROOTS:
            for text in (
                "under(x, (1+r)/2, y)", "under(2*x + 1, r, y)", "under(x, -r, y - 7)", "under(3*x - 5, (1+r)/2, 2*y - x)",
                "under(x, 0, y)", "under(x, 3/2, y)", "under(-x, -2, y)", "under(5, r, x)", "under(-3, r/2, -x + 2)",
                "under(x, 0, y - 3)", "under(-2, 0, x)",
            ):
                self.check(root, text, most=14 if "y" not in text else 9, rows=30)


class FloorTest(Case):
    def test_slopes_of_the_whole_range(self):
        for root in ROOTS:
            random = seeded(f"slopes {root}")
            for slope in [*random.sample(SLOPES, 4), (0, 0, 3), (9, 3, 1), (-9, -3, 1), (-9, 3, 4), (3, 0, 2)]:
                floor = (((1, ("floor", slope, (((1, "x"),), 0))),), 0)
                for saying in (
                    ("equal", floor, (((1, "y"),), 0)), ("equal", (((1, "y"),), 0), (((-1, floor[0][0][1]),), 0)),
                    ("less", floor, (((2, "y"),), -3)), ("leaves", floor, 3, 1),
                ):
                    self.check(root, saying, most=6, rows=3, least=False)
                machine = compiled(Field(root), ("equal", floor, (((-1 if floor_at(root, slope, 1000) < 0 else 1, "y"),), 0)))
                self.assertIsNone(wrong_at_least_machine(machine))
                for _ in range(15):
                    x = any_number(random, 30)
                    y = abs(floor_at(root, slope, x))
                    self.assertTrue(machine.holds(x=x, y=y))
                    self.assertFalse(machine.holds(x=x, y=y + 1))

    def test_sums_in_floors(self):
        for root in ROOTS:
            for text in (
                "floor(r, -x + 5) = -y", "floor((1+r)/2, -2*x + 7) + y = 3", "floor((1+r)/2, x - y) < 3",
                "2*floor(r/2, x - y + 3) = x - 4", "leaves(floor(r, -x + 3), 4, 1)", "floor(-r, x - y) < 3*y",
                "floor(r, 9) = x", "floor(r, -9) + x = 0", "floor(r, 2*x) = y", "floor(r/2, -x) + y = 0", "floor(-r, 3*x) + 20 < y", "floor(3/2, x - y) = 1",
            ):
                self.check(root, text, most=8, rows=25, least=root != 6)

    def test_floors_within_floors(self):
        for root in ROOTS:
            for text in (
                "floor((1+r)/2, floor((1+r)/2, x)) = y", "floor((1+r)/2, floor((1+r)/2, x)) = floor((1+r)/2, x) + x - 1",
                "floor(r, floor(-r, x) + 4) < -y",
                "leaves(floor(r, floor(r/2, -x + 3)), 5, 2)",
            ):
                self.check(root, text, most=9, rows=25, least=False)

    def test_several_floors(self):
        for root in ROOTS:
            for text in (
                "floor(r, x) < floor((1+r)/2, y)", "floor(r, x) + floor(r, y) = floor(r, z)",
                "floor(r, x) - floor(r, x) = y", "floor(r, x) + y = 2*floor(r, x) - 3", "floor(r, x) + floor(-r, x) = -1",
                "leaves(floor(r, x) + floor(r/2, y), 2, 1)", "under(floor(r, x), r, x + y)", "under(x, r, floor(r, y))",
                "floor(r, x) + 2*y + x = z + floor(r, y)",
            ):
                if root in (2, 3, 5) or "2*y + x" not in text:
                    self.check(root, text, most=8 if "z" not in text else 5, rows=25, least=False)

    def test_three_names_with_floors(self):
        for root in (2, 3, 5, 13):
            for text in ("floor((1+r)/2, x - 2*y) < z", "floor(r, x + y) = z", "floor((1+r)/2, x + y - z) < 2"):
                self.check(root, text, most=5, rows=25, least=False)

    def test_many_floors_and_names(self):
        # More values and names than a machine can have are told side by side on the way.
        for text in (
            "floor(1/2, x - y) + floor(1/2, y - z) + x + y < z", "floor(r, x) + floor(r, y) + floor(r, z) = x + y + z",
            "leaves(floor(-r, x) + floor(r, y - 2) + x + y, 2, 1)", "floor((1+r)/2, x - y) + floor(1, y - x) + x + z = y",
        ):
            self.check(5, text, most=4, rows=20, least=False)

    def test_floor_machine(self):
        for root in ROOTS:
            random = seeded(f"machines {root}")
            for slope in [*random.sample(SLOPES, 12), (0, 0, 1), (1, 1, 2), (-1, -1, 2), (0, -1, 4), (9, -3, 4)]:
                machine = floor_machine(Field(root), slope)
                self.assertIsNone(wrong_at_least_machine(machine))
                self.assertEqual((type(machine), machine.names(), machine.field), (Machine, ["x", "y"], Field(root)))
                for x in [*range(25), *(any_number(random) for _ in range(25))]:
                    y = abs(floor_at(root, slope, x))
                    if y <= GREATEST:
                        self.assertTrue(machine.holds(x=x, y=y))
                    self.assertFalse(machine.holds(x=x, y=(y + random.randint(1, 9)) % 10 ** 40))
                    self.assertFalse(y > 0 and machine.holds(x=x, y=(y - 1) % 10 ** 40))
            for value in ((1, 1, 0), (10, 0, 1), (0, 4, 1), (1, 1), [1, 1, 2], None, "r", 1, (True, 1, 1)):
                error = self.check_error(InvalidSlope, floor_machine, field=Field(root), slope=value)
                self.assertEqual(error.given, value)


class GroupTest(Case):
    def test_groups(self):
        for root in ROOTS:
            pieces = ["x < 2*y", "leaves(x, 3, 1)", "floor(r, y) = x + 1", "x = 3"]
            for many in (2, 3, 4):
                for word in ("and", "or"):
                    text = "(" + f" {word} ".join(pieces[:many]) + ")"
                    machine = self.check(root, text, rows=15)
                    joint = said(root, pieces[0])
                    for piece in pieces[1:many]:
                        joint = joint & said(root, piece) if word == "and" else joint | said(root, piece)
                    self.assertEqual(machine, joint)
            self.assertEqual(self.check(root, "not x < 2*y"), ~said(root, "x < 2*y"))
            self.check(root, "not (x = y or not (x < ab and not leaves(y, 2, 0)))", most=4, least=False)

    def test_further_names(self):
        for root in ROOTS:
            machine = said(root, "x < 2*y", names=["y", "ab", "x"])
            self.assertEqual(machine.names(), ["ab", "x", "y"])
            self.assertEqual(machine, said(root, "x < 2*y").widened("ab"))
            for row in near_rows(seeded("further"), ("ab", "x", "y"), 20):
                self.assertIs(machine.is_true(row), row["x"] < 2 * row["y"])
            self.assertEqual(said(root, "3 = 3", names=("x",)), Machine.everything(Field(root), "x"))
            self.assertEqual(said(root, "3 = 4", names=["b", "a"]), Machine.nothing(Field(root), "a", "b"))
            self.assertEqual(said(root, "x < 2*y", names=["y", "x"]), said(root, "x < 2*y"))

    def test_some_and_all(self):
        for root in ROOTS:
            for text, bound in (
                ("some y (y < 9 and x = 2*y)", 9), ("all y (not y < 9 or x < 3*y + 5)", 9),
                ("some y (y < 9 and all z (not z < y or x < 2*z + 3))", 9), ("some y y < 1", 1),
                ("all y (not y < 8 or some z (z < 8 and floor(r, y) + z = x + y))", 8),
                ("some y (y < 10 and floor(r, y) = x)", 10), ("some y x = 3", 1), ("all y x < 3", 1),
                ("(some y (y < 5 and x = 3*y) or all z (not z < 4 or z < x))", 6),
                ("some x (x < 7 and x = 2*y + ab)", 7),
            ):
                self.check(root, text, bound=bound, most=30 if "ab" not in text else 8, rows=10)

    def test_all_numbers(self):
        for root in ROOTS:
            for text, says in (
                ("some y x = 2*y", lambda x: x % 2 == 0), ("all y not x = 3*y + 1", lambda x: x % 3 != 1),
                ("all y (y < x or not y < x)", lambda x: True), ("some y y + 5 < x", lambda x: x > 5),
                ("all y x < y", lambda x: False), ("some y (floor(r, y) = x and y < x)", None),
            ):
                machine = said(root, text)
                self.assertEqual(machine.names(), ["x"])
                for x in range(40):
                    wanted = any(floor_at(root, (0, 1, 1), y) == x and y < x for y in range(x)) if says is None else says(x)
                    self.assertIs(machine.holds(x=x), wanted, (text, x))


class UseTest(Case):
    def known(self, root):
        sum_machine = said(root, "x + 2*y = z")
        return {
            "total": (("z", "x", "y"), sum_machine), "even": (("b",), said(root, "some a b = 2*a")),
            "never": ((), Machine.nothing(Field(root))), "small": (["y", "x"], said(root, "y < x + 3")),
        }

    def test_uses(self):
        uses = {
            "total": lambda z, x, y: x + 2 * y == z, "even": lambda b: b % 2 == 0, "never": lambda: False,
            "small": lambda y, x: y < x + 3,
        }
        for root in ROOTS:
            known = self.known(root)
            before = {name: known[name] for name in known}
            for text, plain in (
                ("total(x, y, ab)", "y + 2*ab = x"), ("total(y, y, x)", "x = 0"), ("total(x, x, x)", "x = 0"),
                ("small(x, y)", "x < y + 3"), ("small(y, x)", "y < x + 3"), ("small(x, x)", "x < x + 1"),
                ("even(x)", "leaves(x, 2, 0)"), ("never()", "1 < 0"), ("(even(x) and small(y, x))", None),
                ("some z (total(z, x, y) and even(z))", "leaves(x + 2*y, 2, 0)"), ("not never()", "0 < 1"),
                ("all z (not total(z, x, x) or small(x, z))", None), ("(even(x) or never())", "leaves(x, 2, 0)"),
            ):
                machine = self.check(root, text, bound=40, uses=uses, known=known, most=5, rows=0)
                if plain is not None:
                    self.assertEqual(machine, said(root, plain, names=machine.names()), text)
            self.assertEqual(known, before)
            self.assertEqual(list(known), list(before))

    def test_uses_are_the_sayings_themselves(self):
        for root in (3, 5):
            inner = read_saying("some a floor(r, x) = y + 2*a")
            known = {"floored": (("y", "x"), compiled(Field(root), inner))}
            for one, other in (("x", "y"), ("y", "x"), ("y", "y")):
                use = ("use", "floored", (one, other))
                meant = read_saying(f"some a floor(r, {other}) = {one} + 2*a")
                for wrap in (
                    lambda part: part, lambda part: ("not", part), lambda part: ("some", "y", part),
                    lambda part: ("and", part, read_saying("x < 9")), lambda part: ("all", "y", ("or", part, read_saying("y < x"))),
                ):
                    self.assertEqual(
                        compiled(Field(root), wrap(use), known=known), compiled(Field(root), wrap(meant)), (one, other))


class ErrorTest(Case):
    def test_order(self):
        field = Field(5)
        known = {"even": (("x",), said(5, "leaves(x, 2, 0)"))}
        bent = ("and", read_saying("x < y"), ("equal", 1, 2))
        uses = read_saying("(even(x) and (strange(x) or even(x, y)))")
        short = read_saying("(even(x) and (even(x, y) or strange(x)))")
        for names in (None, ["x", "x"], []):
            for limit in (1, 20000):
                error = self.check_error(InvalidSaying, compiled, field, bent, names=names, known=known, limit=limit)
                self.assertEqual(error.number, 2)
                error = self.check_error(UnknownName, compiled, field, uses, names=names, known=known, limit=limit)
                self.assertEqual(error.name, "strange")
                error = self.check_error(WrongCount, compiled, field, short, names=names, known=known, limit=limit)
                self.assertEqual(error.name, "even")
        error = self.check_error(UnknownName, compiled, field, uses)
        self.assertEqual(error.name, "even")
        saying = read_saying("(even(y) and x < 9*k)")
        for names, name in (
            (["x", "y", "x"], "x"), (["x", "y", "k", "R"], "R"), (["all", "x"], "all"), (["a", "b", "c", "d", "e"], "e"),
            (["k", 1, "x"], 1), (["x", "a", "b", "c", "c"], "c"), ((None,), None),
        ):
            error = self.check_error(InvalidVariables, compiled, field, saying, names=names, known=known, limit=1)
            self.assertEqual(error.name, name)
        for names, name in (([], "k"), (["k"], "x"), (["y", "k"], "x"), (["x", "k", "a", "b"], "y"), (["x"], "k")):
            error = self.check_error(FreeVariable, compiled, field, saying, names=names, known=known, limit=1)
            self.assertEqual(error.name, name)
        error = self.check_error(TooMany, compiled, field, saying, names=["x", "y", "k"], known=known, limit=1)
        self.assertEqual(error.limit, 1)

    def test_names(self):
        for name in NO_VARIABLES:
            error = self.check_error(InvalidVariables, compiled, Field(2), read_saying("1 = 1"), names=["x", name])
            self.assertIs(error.name, name)

    def test_too_many(self):
        for root in ROOTS:
            for text in ("(x = 3 and x = 4)", "some x x = 7", "not (x < 5 or y = x)", "all x (x < 9 or y < x)", "1 = 2",
                         "some x (x = 2*y and leaves(x, 3, 1))"):
                saying = read_saying(text)
                most = max(len(compiled(Field(root), part)) for part in parts_of(saying))
                self.assertEqual(compiled(Field(root), saying, limit=most), compiled(Field(root), saying))
                if most > 1:
                    error = self.check_error(TooMany, compiled, Field(root), saying, limit=most - 1)
                    self.assertEqual(error.limit, most - 1)
                    error = self.check_error(TooMany, compiled, Field(root), saying, limit=1, names=["x", "y"])
            known = {"long": (("x",), said(root, "x = 1000"))}
            self.check_error(TooMany, compiled, Field(root), read_saying("some x long(x)"), known=known, limit=3)
        self.assertEqual(compiling.MOST_ROOMS, 20000)

    def test_bent_sayings(self):
        random = seeded("bent")
        for _ in range(60):
            saying = any_saying(random)
            number = random.randrange(len(list(parts_of(saying))))
            bent = with_parts(saying, {number: random.choice((None, (), "x", ("not",), ("less", 1, 2), [1]))})
            error = self.check_error(InvalidSaying, compiled, Field(2), bent, names=[1], known={}, limit=1)
            self.assertEqual(error.number, number)


if __name__ == "__main__":
    unittest.main()

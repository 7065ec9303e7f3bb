"""Point 14 and the interface of listing: lists of numbers, differences of neighbours and least rows."""

import unittest
from itertools import islice, product

from helpers import GREATEST, NO_NUMBERS, ROOTS, any_number, raised, seeded, truth, wrong_at_least_machine
from rootfloor.compiling import compiled
from rootfloor.errors import Endless, InvalidNumber, NotSingle
from rootfloor.fields import Field
from rootfloor.listing import count_below, gaps, greatest, is_endless, least_row, number_at, numbers, total
from rootfloor.machines import Machine
from rootfloor.texts import read_saying

ENDLESS = (
    ("x = x", lambda x: True), ("leaves(x, 7, 3)", lambda x: x % 7 == 3),
    ("(leaves(x, 5, 1) or x = 3)", lambda x: x % 5 == 1 or x == 3), ("17 < x", lambda x: 17 < x),
    ("some y floor((1+r)/2, y) = x", None), ("(leaves(floor(r, x), 2, 0) and not x = 4)", None),
)
ENDING = (
    ("x < 0", []), ("x = 0", [0]), ("x < 30", list(range(30))), ("(x = 5 or x = 900)", [5, 900]),
    ("(x < 200 and leaves(x, 9, 4))", list(range(4, 200, 9))), ("some y (x = 5*y and y < 9)", list(range(0, 45, 5))),
)


def said(root, text, **named):
    return compiled(Field(root), read_saying(text), **named)


def single(root, number, name="x"):
    """The machine of one number of any size, which is built from few figures at a time."""
    machine = said(root, "x = 0")
    for figure in str(number):
        text = f"some y (x + 1 = 5*y + 5*y + {int(figure) + 1} and part(y))"
        machine = said(root, text, known={"part": (("x",), machine)})
    return machine.renamed(x=name)


def first(machine, many, **named):
    return list(islice(numbers(machine, **named), many))


def by_going_through(root, text, bound):
    saying = read_saying(text)
    return [x for x in range(bound) if truth(root, saying, {"x": x}, bound=bound)]


class Case(unittest.TestCase):
    def check_error(self, kind, call, *items, **named):
        error = raised(call, *items, **named)
        self.assertIs(type(error), kind)
        return error

    def check_single(self, call, *items):
        """Whether a call is refused for machines that have not one name, whatever else is wrong."""
        for machine in (Machine.everything(Field(5)), Machine.nothing(Field(2), "x", "y"), said(3, "x < y + ab")):
            for wrong in (items, *(((-1,), (None,)) if items else ())):
                self.check_error(NotSingle, call, machine, *wrong)


class NumbersTest(Case):
    def test_small_numbers(self):
        for root in ROOTS:
            for text, says in ENDLESS:
                machine = said(root, text)
                if says is None:
                    wanted = by_going_through(root, text, 60)
                else:
                    wanted = [x for x in range(60) if says(x)]
                self.assertEqual([x for x in first(machine, 70) if x < 60], wanted)
                for start in (0, 1, 4, 5, 17, 40):
                    found = first(machine, 70, start=start)
                    self.assertEqual([x for x in found if x < 60], [x for x in wanted if x >= start])
                    self.assertEqual(len(found), 70)
                    self.assertTrue(all(type(x) is int for x in found))
            for text, wanted in ENDING:
                machine = said(root, text)
                self.assertEqual(list(numbers(machine)), wanted)
                for start in (0, 1, 5, 6, 29, 30, 31, 900, 901, GREATEST):
                    self.assertEqual(list(numbers(machine, start=start)), [x for x in wanted if x >= start])

    def test_great_starts(self):
        for root in ROOTS:
            random = seeded(f"starts {root}")
            machine = said(root, "leaves(x, 7, 3)")
            for _ in range(10):
                start = any_number(random)
                least = start + (3 - start) % 7
                self.assertEqual(first(machine, 5, start=start), [least + 7 * k for k in range(5)])
            self.assertEqual(first(said(root, "x = x"), 3, start=GREATEST), [GREATEST, GREATEST + 1, GREATEST + 2])

    def test_side_by_side(self):
        for root in ROOTS:
            machine = said(root, "leaves(x, 3, 1)")
            one, other = numbers(machine), numbers(machine, start=5)
            self.assertEqual([next(one), next(other), next(one), next(other), next(one), next(one)], [1, 7, 4, 10, 7, 10])

    def test_errors_at_the_first_item(self):
        machine = said(5, "x < 9")
        for wrong in NO_NUMBERS:
            generator = numbers(machine, start=wrong)
            self.assertIs(self.check_error(InvalidNumber, next, generator).given, wrong)
        generator = numbers(Machine.everything(Field(5)), start=-1)
        self.check_error(NotSingle, next, generator)
        generator = numbers(machine=said(2, "x < y"))
        self.check_error(NotSingle, next, generator)


class CountTest(Case):
    def test_small_numbers(self):
        for root in ROOTS:
            for text, says in ENDLESS:
                machine = said(root, text)
                wanted = by_going_through(root, text, 50) if says is None else [x for x in range(50) if says(x)]
                for index, number in enumerate(wanted):
                    self.assertEqual(number_at(machine, index), number)
                for bound in range(50):
                    self.assertEqual(count_below(machine, bound=bound), len([x for x in wanted if x < bound]))
            for text, wanted in ENDING:
                machine = said(root, text)
                self.assertEqual([number_at(machine, index=k) for k in range(len(wanted))], wanted)
                for index in (len(wanted), len(wanted) + 1, 10 ** 30, GREATEST):
                    self.assertIsNone(number_at(machine, index))
                for bound in (0, 1, 4, 5, 6, 29, 30, 31, 900, 901, 10 ** 30, GREATEST):
                    self.assertEqual(count_below(machine, bound), len([x for x in wanted if x < bound]))

    def test_great_numbers(self):
        for root in ROOTS:
            random = seeded(f"counts {root}")
            for text, _ in ENDLESS:
                machine = said(root, text)
                for _ in range(6):
                    index = any_number(random, 30)
                    number = number_at(machine, index)
                    self.assertEqual(count_below(machine, number), index)
                    self.assertEqual(count_below(machine, number + 1), index + 1)
                    self.assertIn({"x": number}, machine)
                    bound = any_number(random, 30)
                    least = number_at(machine, count_below(machine, bound))
                    self.assertGreaterEqual(least, bound)
                    self.assertEqual(first(machine, 1, start=bound), [least])
            self.assertEqual(number_at(said(root, "leaves(x, 9, 4)"), GREATEST), 9 * GREATEST + 4)
            self.assertEqual(count_below(said(root, "x = x"), GREATEST), GREATEST)

    def test_errors(self):
        machine = said(5, "x < 9")
        for call in (number_at, count_below):
            for wrong in NO_NUMBERS:
                self.assertIs(self.check_error(InvalidNumber, call, machine, wrong).given, wrong)
            self.check_single(call, 3)


class EndTest(Case):
    def test_small_lists(self):
        for root in ROOTS:
            for text, _ in ENDLESS:
                machine = said(root, text)
                self.assertIs(is_endless(machine), True)
                self.check_error(Endless, total, machine)
                self.check_error(Endless, greatest, machine)
            for text, wanted in ENDING:
                machine = said(root, text)
                self.assertIs(is_endless(machine), False)
                self.assertEqual((total(machine), greatest(machine)), (len(wanted), wanted[-1] if wanted else None))
        for call in (is_endless, total, greatest):
            self.check_single(call)

    def test_lists_that_end_at_great_numbers(self):
        for root in ROOTS:
            random = seeded(f"ends {root}")
            for figures in (12, 25, 38):
                end = random.randint(10 ** (figures - 1), 10 ** figures - 1)
                last = single(root, end)
                self.assertEqual((total(last), greatest(last), list(numbers(last))), (1, end, [end]))
                machine = said(root, "some y (last(y) and not y < x and leaves(x, 4, 3))", known={"last": (("x",), last)})
                self.assertIs(is_endless(machine), False)
                self.assertEqual(greatest(machine), end - (end - 3) % 4)
                self.assertEqual(total(machine), (end + 1) // 4)
                self.assertIsNone(number_at(machine, (end + 1) // 4))
                index = random.randrange((end + 1) // 4)
                self.assertEqual(number_at(machine, index), 4 * index + 3)
                self.assertEqual(count_below(machine, GREATEST), (end + 1) // 4)

    def test_numbers_beyond_what_can_be_passed(self):
        for root in ROOTS:
            machine = single(root, 10 ** 39)
            for _ in range(4):
                machine = said(root, "some y (x = 9*y + 1 and part(y))", known={"part": (("x",), machine)})
            wanted = 10 ** 39 * 9 ** 4 + (9 ** 4 - 1) // 8
            self.assertEqual((greatest(machine), number_at(machine, 0), total(machine)), (wanted, wanted, 1))
            self.assertEqual(least_row(machine), {"x": wanted})
            both = said(root, "(part(y) and x = 2*y + 3)", known={"part": (("x",), machine)})
            self.assertEqual(least_row(both), {"x": 2 * wanted + 3, "y": wanted})
            self.assertEqual(first(machine, 2), [wanted])


class GapsTest(Case):
    def check(self, machine, most=400):
        found = gaps(machine)
        self.assertIsNone(wrong_at_least_machine(found))
        self.assertEqual((found.names(), found.field), (machine.names(), machine.field))
        listed = first(machine, most)
        wanted = sorted({after - before for before, after in zip(listed, listed[1:])})
        self.assertEqual(list(numbers(found)) if not is_endless(found) else None, wanted)
        return found

    def test_gaps(self):
        for root in ROOTS:
            for text, _ in (*ENDLESS, *ENDING):
                if root != 6 or "some y floor" not in text:
                    self.check(said(root, text))
            self.check(said(root, "leaves(x, 4, 1)").renamed(x="g"))
            self.check(said(root, "(leaves(x, 4, 1) or leaves(x, 3, 0))").renamed(x="n"))
            self.check(said(root, "(leaves(x, 5, 1) and not x = 11)").renamed(x="h"))
        self.check_single(gaps)

    def test_lists_that_end_at_great_numbers(self):
        for root in ROOTS:
            end = 765432198765
            known = {"last": (("x",), single(root, end))}
            machine = said(root, "some y (last(y) and x < y and leaves(x, 3, 1))", known=known)
            self.assertEqual(list(numbers(gaps(machine))), [3])
            machine = said(root, "(last(x) or x = 7 or x = 12)", known=known)
            self.assertEqual(list(numbers(gaps(machine))), [5, end - 12])

    def test_gaps_without_end(self):
        # The numbers whose multiple by the root is nearer above an integer than those of all smaller ones.
        for root in (2, 5):
            machine = said(root, "(0 < x and all y (not (0 < y and y < x) or under(floor(r, y) - floor(r, x), -r, x - y)))")
            listed = first(machine, 12)
            found = gaps(machine)
            self.assertIs(is_endless(machine), True)
            wanted = sorted({after - before for before, after in zip(listed, listed[1:])})
            self.assertEqual(first(found, len(wanted) - 1), wanted[:-1])


class LeastRowTest(Case):
    def test_small_rows(self):
        for root in ROOTS:
            for text in ("x + y = 7", "2*x = 3*y + 4", "y < x", "(x + 3 < y and leaves(y, 5, 1))", "floor(r, x) = y + 2",
                         "(x < y and y < x)", "3 < x", "x + y + ab = 4", "1 = 1", "1 = 2", "leaves(x + y, 4, 3)"):
                machine = said(root, text)
                names = machine.names()
                rows = (dict(zip(names, row)) for row in product(range(20 if len(names) < 3 else 6), repeat=len(names)))
                wanted = next((row for row in rows if truth(root, read_saying(text), row)), None)
                found = least_row(machine)
                self.assertEqual(found, wanted)
                if found is not None:
                    self.assertEqual(list(found), names)
                    found["x"] = 5
                    self.assertEqual(least_row(machine=machine), wanted)

    def test_great_rows(self):
        for root in ROOTS:
            end = 10 ** 29 + 12345
            known = {"last": (("x",), single(root, end))}
            machine = said(root, "some z (last(z) and x + y = z and not 9*x < y)", known=known)
            least = next(x for x in range(end // 10 - 3, end // 10 + 4) if 9 * x >= end - x)
            self.assertEqual(least_row(machine), {"x": least, "y": end - least})


if __name__ == "__main__":
    unittest.main()

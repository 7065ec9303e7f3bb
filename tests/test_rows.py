"""Points 5 to 9: machines of everything and nothing, their rooms and letters, and the reading of rows."""

import unittest
from itertools import combinations, permutations, product

from helpers import (
    GREATEST, NO_NUMBERS, NO_VARIABLES, PERIODS, ROOTS, VARIABLES, all_letters, answer_of, any_digits, any_number,
    equals, first_wrong, less, letters_of_numbers, raised, seeded, wrong_at_least_machine,
)
from rootfloor import machines
from rootfloor.errors import InvalidNumber, InvalidRow, InvalidVariables
from rootfloor.fields import Field
from rootfloor.machines import Machine

MAKERS = (Machine.everything, Machine.nothing)


def read(machine, letters):
    """The answer behind any letters, read from the rows."""
    order = {letter: number for number, letter in enumerate(all_letters(machine.field.root, len(machine.names())))}
    room, rows = 0, machine.rows()
    for letter in letters:
        room = rows[room][order[letter]]
    return machine.answers()[room]


class MakingTest(unittest.TestCase):
    def test_names_and_rooms(self):
        for root in ROOTS:
            for many in range(4 if root in (6, 13) else 5):
                for names in list(permutations(("z", "ab", "x", "a")[:many]))[::5] or [()]:
                    for make in MAKERS:
                        machine = make(Field(root), *names)
                        self.assertIs(type(machine), Machine)
                        self.assertEqual(machine.field, Field(root))
                        self.assertEqual(machine.names(), sorted(names))
                        self.assertIsNone(wrong_at_least_machine(machine))
                        self.assertEqual(bool(machine), make is Machine.everything)

    def test_four_names_of_great_tops(self):
        for root in (6, 13):
            machine = Machine.everything(Field(root), "d", "c", "b", "a")
            self.assertEqual(machine.names(), ["a", "b", "c", "d"])
            self.assertEqual([len(row) for row in machine.rows()], [(max(PERIODS[root]) + 1) ** 4] * len(machine))
            self.assertEqual(len(machine), 1 + len(PERIODS[root]) * 16)

    def test_no_names(self):
        for root in ROOTS:
            for make, answer in ((Machine.everything, True), (Machine.nothing, False)):
                machine = make(Field(root))
                self.assertEqual((machine.rows(), machine.answers()), ([[0]], [answer]))
                self.assertEqual((machine.names(), machine.is_true({}), len(machine)), ([], answer, 1))

    def test_nothing_has_one_room(self):
        for root in ROOTS:
            machine = Machine.nothing(Field(root), "y", "x")
            self.assertEqual(machine.rows(), [[0] * (max(PERIODS[root]) + 1) ** 2])
            self.assertEqual(machine.answers(), [False])

    def test_one_name_by_hand(self):
        # Room 0 may not take the top, room 1 is reached by 0 and may take it, room 2 is lost.
        golden = Machine.everything(Field(5), "x")
        self.assertEqual(golden.rows(), [[1, 2], [1, 0], [2, 2]])
        self.assertEqual(golden.answers(), [True, True, False])
        self.assertEqual(Machine.everything(Field(2), "x").rows(), [[1, 0, 2], [1, 0, 0], [2, 2, 2]])
        # The root 3 has the period 1, 2: room 1 is at the odd places, room 2 is lost.
        self.assertEqual(
            Machine.everything(Field(3), "x").rows(), [[1, 2, 2], [3, 0, 0], [2, 2, 2], [1, 4, 2], [3, 0, 2]],
        )

    def test_letters_whose_digits_cannot_stand(self):
        for root in ROOTS:
            random = seeded(f"letters {root}")
            for many in (1, 2, 3):
                machine = Machine.everything(Field(root), *("x", "y", "z")[:many])
                found = {True: 0, False: 0}
                for _ in range(150):
                    lists = [any_digits(random, root, 8) for _ in range(many)]
                    if random.random() < 0.7:
                        random.choice(lists)[random.randrange(8)] = random.randint(0, max(PERIODS[root]))
                    expected = all(first_wrong(root, digits) is None for digits in lists)
                    self.assertIs(read(machine, zip(*lists)), expected)
                    self.assertIs(read(machine, [*zip(*lists), (0,) * many]), expected)
                    found[expected] += 1
                self.assertGreater(min(found.values()), 10)

    def test_is_static(self):
        self.assertIsInstance(vars(Machine)["everything"], staticmethod)
        self.assertIsInstance(vars(Machine)["nothing"], staticmethod)
        self.assertEqual(machines.MOST_NAMES, 4)
        self.assertEqual(Machine.everything(field=Field(5)), Machine.everything(Field(5)))


class WrongNamesTest(unittest.TestCase):
    def check(self, names, name):
        for make in MAKERS:
            for root in (2, 6):
                error = raised(make, Field(root), *names)
                self.assertIs(type(error), InvalidVariables)
                self.assertIs(error.name, name)

    def test_no_variables(self):
        for value in NO_VARIABLES:
            self.check((value,), value)
            self.check(("x", value, "X"), value)
            self.check(("d", "c", "b", "a", value), value)
            self.check((value, "x", "x"), value)

    def test_variables(self):
        for name in VARIABLES:
            self.assertEqual(Machine.everything(Field(5), name).names(), [name])

    def test_repeated(self):
        self.check(("x", "x"), "x")
        self.check(("x", "y", "x", "y"), "x")
        self.check(("x", "y", "y", "x"), "y")
        self.check(("b", "a", "c", "d", "b"), "b")
        self.check(("x", "x", "all"), "x")

    def test_five(self):
        self.check(("a", "b", "c", "d", "e"), "e")
        self.check(("e", "d", "c", "b", "a", "f"), "a")
        self.check(("e", "d", "c", "b", "a", "r"), "a")


class DigitsTest(unittest.TestCase):
    def test_letters(self):
        for root in ROOTS:
            for many in range(4):
                letters = all_letters(root, many)
                for make in MAKERS:
                    machine = make(Field(root), *("a", "b", "c")[:many])
                    self.assertEqual([machine.digits_of(index) for index in range(len(letters))], letters)

    def test_four_names(self):
        machine = Machine.nothing(Field(13), "a", "b", "c", "d")
        letters = all_letters(13, 4)
        for index in (0, 1, 3, 4, 63, 64, 200, 254, 255):
            self.assertEqual(machine.digits_of(index=index), letters[index])

    def test_wrong_indexes(self):
        for root in ROOTS:
            for many in range(3):
                machine = Machine.everything(Field(root), *("a", "b")[:many])
                for index in (*NO_NUMBERS, len(all_letters(root, many)), 10 ** 39):
                    error = raised(machine.digits_of, index)
                    self.assertIs(type(error), InvalidNumber)
                    self.assertIs(error.given, index)


class RowTest(unittest.TestCase):
    def machines(self, root):
        """Machines with what each one says of its numbers, in the order of its names."""
        field = Field(root)
        yield Machine.everything(field, "x", "y", "a"), lambda a, x, y: True
        yield Machine.nothing(field, "x", "y", "a"), lambda a, x, y: False
        yield Machine.everything(field), lambda: True
        yield Machine.nothing(field), lambda: False
        yield equals(root, x=1, y=-2), lambda x, y: x == 2 * y
        yield equals(root, -3, x=2, y=-3), lambda x, y: 2 * x == 3 * y + 3
        yield less(root, "b", "a"), lambda a, b: b < a
        yield equals(root, -12, x=1), lambda x: x == 12

    def check(self, machine, numbers, expected):
        values = dict(zip(machine.names(), numbers))
        before = dict(values)
        self.assertIs(machine.is_true(values), expected)
        self.assertIs(values in machine, expected)
        self.assertIs(machine.holds(**values), expected)
        self.assertIs(machine.is_true({"zz": True, 5: None, "r": -1, **values, "all": [], "": 10 ** 50}), expected)
        self.assertIs(machine.holds(zz="no", **values, all=-1), expected)
        self.assertEqual(values, before)
        self.assertIs(answer_of(machine, numbers), expected)

    def test_small_rows(self):
        for root in ROOTS:
            for machine, says in self.machines(root):
                for numbers in product((0, 1, 2, 3, 4, 6, 9, 12), repeat=len(machine.names())):
                    self.check(machine, numbers, says(*numbers))

    def test_great_rows(self):
        for root in ROOTS:
            random = seeded(f"rows {root}")
            for machine, says in self.machines(root):
                for _ in range(10):
                    numbers = [random.choice((any_number(random), GREATEST)) for _ in machine.names()]
                    self.check(machine, numbers, says(*numbers))
            for _ in range(20):
                number = any_number(random, 39)
                self.check(equals(root, x=1, y=-2), [2 * number, number], True)
                self.check(equals(root, x=1, y=-2), [2 * number + 1, number], False)
                self.check(less(root, "b", "a"), [number + 1, number], True)
                self.check(less(root, "b", "a"), [number, number], False)

    def test_read_with_further_zeros(self):
        for root in ROOTS:
            for machine, says in self.machines(root):
                many = len(machine.names())
                for numbers in product((0, 1, 5, 8), repeat=many):
                    for more in (0, 1, 2, 3):
                        letters = letters_of_numbers(root, numbers, more)
                        self.assertIs(read(machine, letters), says(*numbers))

    def check_wrong(self, machine, values, name):
        before = dict(values)
        for call in (machine.is_true, machine.__contains__, lambda row: row in machine):
            error = raised(call, values)
            self.assertIs(type(error), InvalidRow)
            self.assertEqual(error.name, name)
        if all(isinstance(key, str) for key in values):
            error = raised(lambda: machine.holds(**values))
            self.assertIs(type(error), InvalidRow)
            self.assertEqual(error.name, name)
        self.assertEqual(values.keys(), before.keys())
        self.assertTrue(all(values[key] is before[key] for key in before))

    def test_rows_that_lack_a_number(self):
        for root in ROOTS:
            for make in MAKERS:
                for many in (1, 2, 3):
                    names = ("k", "ab", "z")[:many]
                    machine = make(Field(root), *names)
                    whole = {name: 7 for name in names}
                    for size in range(1, many + 1):
                        for missing in combinations(names, size):
                            rest = {name: 7 for name in names if name not in missing}
                            self.check_wrong(machine, rest, min(missing))
                            self.check_wrong(machine, {**rest, 3: 4, "zz": 1}, min(missing))
                    for value in NO_NUMBERS:
                        for name in names:
                            self.check_wrong(machine, {**whole, name: value}, name)
                        self.check_wrong(machine, {name: value for name in names}, min(names))

    def test_other_machines(self):
        self.check_wrong(equals(5, x=1, y=-2), {"y": -1, "x": True}, "x")
        self.check_wrong(equals(5, x=1, y=-2), {"y": -1, "x": 0}, "y")
        self.check_wrong(less(13, "b", "a"), {"b": 1}, "a")

    def test_by_name(self):
        machine = Machine.everything(Field(5), "x")
        self.assertIs(machine.is_true(values={"x": 5}), True)


if __name__ == "__main__":
    unittest.main()

"""Points 17, 18 and 19: books, their commands and history, and the machines that they keep."""

import unittest

from helpers import (
    NO_INTEGERS, NO_NAMES, NO_NUMBERS, ROOTS, any_number, first_misbound, free_in, parts_with_around, raised, seeded,
)
from rootfloor.books import Book
from rootfloor.compiling import compiled
from rootfloor.errors import (
    CapacityExceeded, DuplicateName, FreeVariable, InUse, InvalidCommand, InvalidLimit, InvalidName, InvalidRow,
    InvalidSaying, InvalidVariables, NothingLeft, TooMany, UnknownName, WrongCount,
)
from rootfloor.fields import Field
from rootfloor.machines import Machine
from rootfloor.texts import read_saying

WORDS = ("even", "total", "small", "evenly", "thirds", "abcdefgh")
NO_LIMITS = (*NO_INTEGERS, 0, -1, 21, 10 ** 40, -10 ** 5000)


def defined(name, variables, text):
    return "define", name, tuple(variables), read_saying(text)


EVEN = defined("even", "x", "some y x = 2*y")
BOTH = defined("both", "xy", "(even(x) and even(y))")
SUMS = defined("sums", ("z", "x"), "some y (even(y) and x + y = z)")
LAST = defined("last", "x", "some z (sums(z, x) and z = 6)")
FLOORS = defined("floors", "yx", "floor(r, x) = y")


class Model:
    """The definitions of a book, written down once more; each command gives the error that is due."""

    def __init__(self, limit):
        self.limit, self.definitions = limit, []

    def names(self):
        return [name for name, _, _ in self.definitions]

    def saying_error(self, before, variables, saying):
        number = bent_at(saying)
        if number is not None:
            return InvalidSaying, number
        counts = {name: len(inner) for name, inner, _ in before}
        for part, _ in parts_with_around(saying):
            if part[0] == "use":
                if part[1] not in counts:
                    return UnknownName, part[1]
                if counts[part[1]] != len(part[2]):
                    return WrongCount, part[1]
        for name in free_in(saying):
            if name not in variables:
                return FreeVariable, name
        return None

    def error(self, command):
        word, name = command[:2]
        names = self.names()
        if word == "define":
            _, _, variables, saying = command
            if not (isinstance(name, str) and name in WORDS):
                return InvalidName, name
            if name in names:
                return DuplicateName, name
            if len(names) >= self.limit:
                return CapacityExceeded, self.limit
            if not isinstance(variables, tuple) or len(variables) > 3 or len(set(variables)) < len(variables) or "R" in variables:
                return InvalidVariables, name
            return self.saying_error(self.definitions, variables, saying)
        if name not in names:
            return UnknownName, name
        place = names.index(name)
        if word == "change":
            return self.saying_error(self.definitions[:place], self.definitions[place][1], command[2])
        if word == "rename":
            if command[2] not in WORDS:
                return InvalidName, command[2]
            return (DuplicateName, command[2]) if command[2] in names else None
        users = [user for user, _, saying in self.definitions if name in used_in(saying)]
        return (InUse, users[0]) if users else None

    def apply(self, command):
        word, name = command[:2]
        if word == "define":
            self.definitions = [*self.definitions, tuple(command[1:])]
        elif word == "change":
            self.definitions = [(n, v, command[2] if n == name else s) for n, v, s in self.definitions]
        elif word == "rename":
            self.definitions = [(command[2] if n == name else n, v, with_use(s, name, command[2])) for n, v, s in self.definitions]
        else:
            self.definitions = [definition for definition in self.definitions if definition[0] != name]


def bent_at(saying):
    """The number of the first wrong part of the sayings that are drawn here."""
    if saying is None or saying == ("not",):
        return 0
    if saying[0] == "and" and saying[2] is None:
        return len(parts_with_around(saying[1])) + 1
    return first_misbound(saying)


def used_in(saying):
    return [part[1] for part, _ in parts_with_around(saying) if part[0] == "use"]


def with_use(saying, name, fresh):
    if saying[0] == "use":
        return ("use", fresh if saying[1] == name else saying[1], saying[2])
    if saying[0] in ("not", "and", "or"):
        return (saying[0], *(with_use(part, name, fresh) for part in saying[1:]))
    return (*saying[:2], with_use(saying[2], name, fresh)) if saying[0] in ("some", "all") else saying


def any_use(random):
    return "use", random.choice(WORDS), tuple(random.choice("xy") for _ in range(random.choice((0, 1, 1, 2, 2))))


def any_command_saying(random):
    plain = read_saying(random.choice(("x = 2*y", "x < 3", "1 = 1", "leaves(x, 3, 1)", "some z x = 2*z", "y < x", "floor(r, x) < y")))
    return random.choice((
        plain, plain, plain, any_use(random), any_use(random), ("and", plain, any_use(random)), ("some", "y", any_use(random)),
        ("not", ("or", any_use(random), plain)), None, ("not",), ("and", plain, None), ("all", "x", ("some", "x", plain)),
    ))


def any_command(random):
    word = random.choice(("define", "define", "define", "change", "rename", "drop"))
    name = random.choice(WORDS)
    if word == "define":
        name = random.choice((name, name, name, name, "some", "EVEN", 5))
        variables = random.choice((("x",), ("x", "y"), ("y", "x"), (), ("x", "y", "z"), ("x", "x"), ["x"], ("R",), ("a", "b", "x", "y")))
        return word, name, variables, any_command_saying(random)
    if word == "change":
        return word, name, any_command_saying(random)
    return (word, name, random.choice((*WORDS, "some", "x"))) if word == "rename" else (word, name)


def state(book):
    definitions = [(name, book.variables(name), book.saying(name)) for name in book.names()]
    return definitions, book.history(), book.kept(), book.computed, book.limit, book.busy, len(book)


class Case(unittest.TestCase):
    def check_error(self, book, kind, value, call, *items, **named):
        """Whether a call raises an error and changes nothing."""
        before = state(book)
        error = raised(call, *items, **named)
        self.assertIs(type(error), kind, items)
        if value is not None:
            self.assertEqual([item for name, item in vars(error).items() if name != "tag"], [value])
        self.assertEqual(state(book), before)
        self.assertIs(book.busy, False)

    def check_definitions(self, book, definitions):
        self.assertEqual(state(book)[0], definitions)
        names = [name for name, _, _ in definitions]
        self.assertEqual((book.names(), len(book)), (names, len(names)))
        self.assertEqual(repr(book), f"Book({len(names)} sayings)")
        for word in (*WORDS, "", 5, None):
            self.assertIs(word in book, word in names)
        for name in names:
            self.assertEqual(book.users(name), [user for user, _, saying in definitions if name in used_in(saying)])


class CommandTest(Case):
    def test_single_commands(self):
        for root in ROOTS:
            for limit in (1, 2, 5, 12, 20):
                random = seeded(f"commands {root} {limit}")
                book, model, steps = Book(Field(root), limit=limit), Model(limit), 0
                for _ in range(120):
                    command = any_command(random)
                    due = model.error(command)
                    if due is None:
                        self.assertIsNone(book.apply(command))
                        model.apply(command)
                        steps += 1
                    else:
                        self.check_error(book, *due, book.apply, command)
                    self.check_definitions(book, model.definitions)
                    self.assertEqual(book.history(), (steps, 0))

    def test_steps_undo_and_redo(self):
        for root in ROOTS:
            random = seeded(f"steps {root}")
            book, model = Book(Field(root), limit=5), Model(5)
            past, future = [], []
            for _ in range(150):
                word = random.choice(("apply", "apply", "apply", "undo", "redo"))
                if word == "apply":
                    commands = [any_command(random) for _ in range(random.choice((0, 1, 1, 2, 3)))]
                    before, due = model.definitions, None
                    for command in commands:
                        due = due or model.error(command)
                        if due is None:
                            model.apply(command)
                    if due is None:
                        book.apply(*commands)
                        past, future = [*past, before], []
                    else:
                        model.definitions = before
                        self.check_error(book, *due, book.apply, *commands)
                elif word == "undo" and past:
                    self.assertIsNone(book.undo())
                    future, model.definitions = [*future, model.definitions], past.pop()
                elif word == "redo" and future:
                    self.assertIsNone(book.redo())
                    past, model.definitions = [*past, model.definitions], future.pop()
                else:
                    self.check_error(book, NothingLeft, None, book.undo if word == "undo" else book.redo)
                self.check_definitions(book, model.definitions)
                self.assertEqual(book.history(), (len(past), len(future)))
            first, last = book.twin(), book.twin()
            while first.history()[0]:
                first.undo()
            while last.history()[1]:
                last.redo()
            self.check_definitions(first, past[0] if past else model.definitions)
            self.check_definitions(last, future[0] if future else model.definitions)
            self.check_definitions(book, model.definitions)
            self.assertEqual(book.history(), (len(past), len(future)))

    def test_other_forms(self):
        book = Book(Field(5))
        book.apply(EVEN)
        for command, word in (
            (None, None), (5, None), ("drop even", None), (b"drop", None), ({}, None), ((), None), ([], None), (("drop",), "drop"),
            (["drop", "even"], "drop"), (("drop", "even", 1), "drop"), (("define", "a", ()), "define"), (("Define", "a", (), 1), "Define"),
            ((None, "even"), None), (("rename", "even"), "rename"), (("change", "even"), "change"), (([1], "even"), [1]), ((True, 2), True),
            (("undo",), "undo"), ([[], 5], []), (("",), ""),
        ):
            for commands in ((command,), (("drop", "strange"), command), (command, ("drop", "strange")), (("drop", "even"), command, None)):
                self.check_error(book, InvalidCommand, word, book.apply, *commands) if word is not None else self.check_word(book, commands)
        self.assertEqual(book.history(), (1, 0))

    def check_word(self, book, commands):
        error = raised(book.apply, *commands)
        self.assertEqual((type(error), error.word), (InvalidCommand, None))

    def test_errors_in_order(self):
        book = Book(Field(5), limit=2)
        book.apply(EVEN)
        for name in NO_NAMES:
            self.check_error(book, InvalidName, name, book.apply, ("define", name, None, None))
            self.check_error(book, InvalidName, name, book.apply, ("rename", "even", name))
            self.check_error(book, UnknownName, name, book.apply, ("drop", name))
            self.check_error(book, UnknownName, name, book.apply, ("change", name, None))
            self.check_error(book, UnknownName, name, book.apply, ("rename", name, name))
        self.check_error(book, DuplicateName, "even", book.apply, ("define", "even", None, None))
        self.check_error(book, DuplicateName, "even", book.apply, ("rename", "even", "even"))
        for variables in (None, ["x"], ("x", "x"), ("r",), ("a", "b", "c", "d"), "x", (1,), ("X",)):
            self.check_error(book, InvalidVariables, "both", book.apply, ("define", "both", variables, None))
        for make in (lambda saying: ("define", "both", ("x",), saying), lambda saying: ("change", "even", saying)):
            self.check_error(book, InvalidSaying, 1, book.apply, make(("not", ("use", "strange", "x"))))
            self.check_error(book, UnknownName, "strange", book.apply, make(read_saying("(k = 1 and strange(x))")))
            self.check_error(book, FreeVariable, "k", book.apply, make(read_saying("(y = 1 and k = x)")))
        self.check_error(book, WrongCount, "even", book.apply, ("define", "both", ("x",), read_saying("(even(x, k) or strange(x))")))
        self.check_error(book, UnknownName, "even", book.apply, ("change", "even", read_saying("even(x)")))
        book.apply(BOTH)
        self.check_error(book, CapacityExceeded, 2, book.apply, ("define", "third", None, None))
        self.check_error(book, InUse, "both", book.apply, ("drop", "even"))
        self.check_error(book, UnknownName, "both", book.apply, ("change", "even", read_saying("both(x, x)")))
        for call in (book.variables, book.saying, book.users, book.machine, book.holds):
            self.check_error(book, UnknownName, "third", call, "third")


class MachineTest(Case):
    def test_uses_stand_for_their_meanings(self):
        for root in ROOTS:
            book = Book(Field(root))
            book.apply(EVEN, BOTH, SUMS, LAST, FLOORS, defined("truth", "", "all x (even(x) or some y x = 2*y + 1)"),
                       defined("swap", "xy", "(floors(x, y) or floors(y, x))"), defined("many", ("y", "x", "k"), "x < y + 2"),
                       defined("bound", "y", "some x (floors(y, x) and all k (not k < x or k < y + 1))"))
            for name, text, names in (
                ("even", "leaves(x, 2, 0)", ["x"]), ("both", "(leaves(x, 2, 0) and leaves(y, 2, 0))", ["x", "y"]),
                ("sums", "some k x + 2*k = z", ["x", "z"]), ("last", "(leaves(x, 2, 0) and x < 7)", ["x"]), ("truth", "1 = 1", []),
                ("floors", "floor(r, x) = y", ["x", "y"]), ("swap", "(floor(r, x) = y or floor(r, y) = x)", ["x", "y"]),
                ("many", "x < y + 2", ["k", "x", "y"]), ("bound", "some x (floor(r, x) = y and all k (not k < x or k < y + 1))", ["y"]),
            ):
                machine = book.machine(name=name)
                self.assertEqual((type(machine), machine.names()), (Machine, names))
                self.assertEqual(machine, compiled(Field(root), read_saying(text), names=names))
            self.assertIs(book.holds("sums", 10 ** 30 + 4, 10 ** 30), True)
            self.assertIs(book.holds("sums", 10 ** 30, 10 ** 30 + 4), False)
            self.assertIs(book.holds("many", 5, 6, 0), True)
            self.assertIs(book.holds("many", 5, 7, 0), False)
            self.assertIs(book.holds("truth"), True)
            random = seeded(f"floors {root}")
            for _ in range(20):
                x, y = any_number(random, 3), any_number(random, 3)
                self.assertIs(book.holds("both", x, y), x % 2 == y % 2 == 0)
                self.assertIs(book.holds("swap", x, y), book.machine("swap").holds(x=x, y=y))

    def test_renamed_under_a_bound_variable(self):
        for root in (2, 5):
            book = Book(Field(root))
            book.apply(FLOORS, defined("found", "y", "some x (floors(y, x) and x < 9)"), defined("other", "x", "x = 3"))
            wanted = book.machine("found")
            book.apply(("rename", "floors", "other"[:4] + "s"), ("rename", "found", "floors"))
            self.assertEqual(book.machine("floors"), wanted)
            # Two names are exchanged in one step.
            book.apply(("rename", "floors", "third"), ("rename", "other", "floors"), ("rename", "third", "other"))
            self.assertEqual(book.names(), ["othes", "other", "floors"])
            self.assertEqual((book.machine("other"), book.machine("floors").holds(x=3)), (wanted, True))

    def test_errors_of_holds(self):
        book = Book(Field(5))
        book.apply(defined("pair", "yx", "x < y"), defined("huge", "x", "(leaves(x, 5, 1) and (leaves(x, 7, 2) and leaves(x, 9, 3)))"))
        self.check_error(book, UnknownName, "strange", book.holds, "strange", -1)
        for numbers in ((), (1,), (1, -1, 2), (None,)):
            self.check_error(book, WrongCount, "pair", book.holds, "pair", *numbers)
        for wrong in NO_NUMBERS:
            self.check_error(book, InvalidRow, "x", book.holds, "pair", wrong, wrong)
            self.check_error(book, InvalidRow, "y", book.holds, "pair", wrong, 1)
            self.check_error(book, InvalidRow, "x", book.holds, "pair", 1, wrong)
        self.check_error(book, InvalidRow, "x", book.holds, "huge", -1)
        self.check_error(book, TooMany, 20000, book.holds, "huge", 1)
        self.check_error(book, TooMany, 20000, book.machine, "huge")
        self.assertEqual((book.kept(), book.computed), ([], 0))
        self.assertIs(book.holds("pair", 4, 3), True)
        self.assertEqual((book.kept(), book.computed), (["pair"], 1))


class KeptTest(Case):
    def book(self):
        book = Book(Field(5))
        book.apply(EVEN, BOTH, SUMS, LAST)
        return book

    def check_kept(self, book, names, computed):
        self.assertEqual((book.kept(), book.computed), (names, computed))

    def test_asked_for_only(self):
        book = self.book()
        self.check_kept(book, [], 0)
        book.machine("last")
        self.check_kept(book, ["last"], 1)
        book.machine("last")
        book.holds("last", 3)
        self.check_kept(book, ["last"], 1)
        book.holds("even", 3)
        book.machine("both")
        self.check_kept(book, ["both", "even", "last"], 3)
        book.kept().append("x")
        self.check_kept(book, ["both", "even", "last"], 3)

    def full(self):
        book = self.book()
        for name in ("last", "sums", "both", "even"):
            book.machine(name)
        return book

    def test_changes(self):
        for commands, names in (
            ((), ["both", "even", "last", "sums"]),
            ((("change", "even", read_saying("some y x = y + y")),), []),
            ((("change", "even", EVEN[3]),), ["both", "even", "last", "sums"]),
            ((("change", "even", read_saying("some k x = 2*k")),), []),
            ((("change", "sums", read_saying("x = z")), ("change", "sums", SUMS[3])), ["both", "even", "last", "sums"]),
            ((("change", "both", read_saying("x = y")),), ["even", "last", "sums"]),
            ((("change", "sums", read_saying("some y (x + y = z and even(y))")),), ["both", "even"]),
            ((("rename", "even", "twos"),), ["both", "last", "sums"]),
            ((("rename", "even", "twos"), ("rename", "twos", "even")), ["both", "even", "last", "sums"]),
            ((("rename", "both", "even"[:3] + "y"), ("rename", "last", "both")), ["even", "sums"]),
            ((("drop", "both"),), ["even", "last", "sums"]),
            ((("drop", "both"), BOTH), ["both", "even", "last", "sums"]),
            ((("drop", "last"), ("define", "last", ("y",), read_saying("some z (sums(z, y) and z = 6)"))), ["both", "even", "sums"]),
            ((("drop", "both"), defined("both", "yx", "(even(x) and even(y))")), ["even", "last", "sums"]),
            ((defined("more", "x", "even(x)"),), ["both", "even", "last", "sums"]),
            # The use and what it stands for mean something else.
            ((("change", "both", read_saying("(some k x = 2*k and even(y))")),), ["even", "last", "sums"]),
            # Another name with the same meaning is used.
            ((defined("same", "x", "some y x = 2*y"), ("drop", "last"), ("drop", "sums"), ("define", "sums", ("z", "x"),
              read_saying("some y (same(y) and x + y = z)")), LAST), ["both", "even", "last", "sums"]),
        ):
            book = self.full()
            before = {name: book.machine(name) for name in book.names()}
            book.apply(*commands)
            self.check_kept(book, names, 4)
            for name in names:
                self.assertEqual(book.machine(name), before[name])
            self.check_kept(book, names, 4)
            book.undo()
            self.check_kept(book, [name for name in names if name in before], 4)
            book.redo()
            self.check_kept(book, names, 4)
            for name in book.names():
                self.assertEqual(book.machine(name).names(), sorted(book.variables(name)))
            self.check_kept(book, sorted(book.names()), 4 + len(book) - len(names))

    def test_history(self):
        book = self.book()
        book.machine("even")
        book.apply(("change", "even", read_saying("x = 1")))
        self.check_kept(book, [], 1)
        book.machine("even")
        book.undo()
        self.check_kept(book, [], 2)
        self.assertIs(book.holds("even", 4), True)
        book.undo()
        self.check_kept(book, [], 3)
        book.redo()
        self.check_kept(book, [], 3)
        raised(book.apply, ("drop", "even"))
        book.machine("sums")
        raised(book.apply, ("drop", "last"), ("drop", "even"))
        self.check_kept(book, ["sums"], 4)


class TwinTest(Case):
    def test_twins(self):
        book = Book(Field(5), limit=4)
        book.apply(EVEN)
        book.apply(BOTH)
        book.machine("even")
        book.apply(SUMS)
        book.undo()
        twin = book.twin()
        self.assertIs(type(twin), Book)
        self.assertEqual(state(twin), state(book))
        self.assertEqual(twin.field, book.field)
        before = state(book)
        twin.redo()
        twin.machine("both")
        twin.set_limit(3)
        twin.apply(("drop", "both"))
        self.assertEqual(state(book), before)
        self.assertEqual(state(twin)[1:6], ((4, 0), ["even"], 2, 3, False))
        there = state(twin)
        book.apply(FLOORS)
        book.limit = 9
        book.machine("floors")
        self.assertEqual(state(twin), there)
        self.assertEqual((book.kept(), book.computed), (["even", "floors"], 2))

    def test_equality(self):
        one, other = Book(Field(5), limit=3), Book(Field(5))
        self.assertTrue(one == other)
        one.apply(EVEN, FLOORS)
        self.assertFalse(one == other)
        other.apply(EVEN)
        other.apply(FLOORS)
        other.machine("even")
        self.assertTrue(one == other)
        self.assertFalse(one != other)
        turned = Book(Field(5))
        turned.apply(FLOORS, EVEN)
        self.assertTrue(one != turned)
        strange = Book(Field(2))
        strange.apply(EVEN, FLOORS)
        for value in (strange, None, 5, one.names(), "book", Field(5)):
            self.assertFalse(one == value)
            self.assertTrue(one != value)


class LimitTest(Case):
    def test_limits(self):
        self.assertEqual((Book.MOST, Book(Field(5)).limit, Book(field=Field(5), limit=20).limit), (20, 12, 20))
        for wrong in NO_LIMITS:
            error = raised(Book, Field(5), limit=wrong)
            self.assertIs(type(error), InvalidLimit)
            self.assertIs(error.given, wrong)
        book = Book(Field(5), limit=3)
        book.apply(EVEN, BOTH)
        for limit in range(-1, 23):
            for call in (book.set_limit, lambda value: setattr(book, "limit", value)):
                if 2 <= limit <= 20:
                    self.assertIsNone(call(limit))
                    self.assertEqual(book.limit, limit)
                else:
                    self.check_error(book, InvalidLimit, limit, call, limit)
        for wrong in NO_LIMITS:
            for call in (book.set_limit, lambda value: setattr(book, "limit", value)):
                before = state(book)
                self.assertIs(raised(call, wrong).given, wrong)
                self.assertEqual(state(book), before)
        book.set_limit(value=2)
        self.check_error(book, CapacityExceeded, 2, book.apply, SUMS)
        for word in ("field", "busy", "computed"):
            self.assertIs(type(raised(setattr, book, word, 1)), AttributeError)

    def test_history_beyond_the_limit(self):
        book = Book(Field(5))
        book.apply(EVEN, BOTH, SUMS)
        book.apply(("drop", "sums"), ("drop", "both"))
        book.limit = 1
        book.undo()
        self.assertEqual((len(book), book.limit), (3, 1))
        self.check_error(book, CapacityExceeded, 1, book.apply, LAST)
        self.check_error(book, InvalidLimit, 2, book.set_limit, 2)
        book.apply(("drop", "sums"))
        self.check_error(book, CapacityExceeded, 1, book.apply, LAST)
        book.undo()
        self.assertEqual((book.history(), book.names()), ((1, 1), ["even", "both", "sums"]))
        book.redo()
        self.assertEqual(book.names(), ["even", "both"])
        book.limit = 2
        self.assertEqual(book.limit, 2)


if __name__ == "__main__":
    unittest.main()

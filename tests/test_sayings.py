"""Point 11: the forms of sayings, their numbers, bound and free variables, parts and names."""

import unittest
from types import GeneratorType

from helpers import (
    NAMES, NO_INTEGERS, NO_NAMES, NO_VARIABLES, VARIABLES, any_comparison, any_saying, any_term, first_misbound,
    free_in, inner_places, parts_with_around, raised, seeded, variables_in, with_parts,
)
from rootfloor.errors import InvalidSaying
from rootfloor.sayings import check_saying, free_variables, is_saying, parts_of, used_names

X, Y, ONE = (((1, "x"),), 0), (((1, "y"),), 0), ((), 1)
PLAIN = ("equal", X, ONE)
BARE = ("equal", ONE, ONE)
NO_TERMS = (
    "x", 1, None, True, (), ((), 1001), ((), True), ([], 0), [(), 0], (((0, "x"),), 0), (((10, "x"),), 0),
    (((1, "r"),), 0), (((1, "abcd"),), 0), (((1, "x"),) * 5, 0), ((("x", 1),), 0), (((1, ("floor", (0, 4, 1), X)),), 0),
)
NO_SLOPES = ((10, 0, 1), (0, 0, 0), (0, 0, 5), (0, 4, 1), [0, 1, 1], (0, 1), "r", None, 1, (True, 1, 1))

# Values of a wrong form whatever stands around them; what is a saying in them does not matter.
MISFORMED = [
    *NO_INTEGERS[:-1], 0, 1, "x = 1", ("",), (1,), (None, X, X), ((), X, X), (["equal"], X, X), ("Equal", X, X),
    list(PLAIN), ["not", PLAIN], ["and", PLAIN, PLAIN], ("equals", X, X), (("equal",), X, X), (True, X, X), X,
    ("equal",), ("equal", X), ("equal", X, X, X), ("less",), ("less", X), ("less", X, X, X), ("equal", PLAIN, PLAIN),
    ("under",), ("under", X, X), ("under", X, (0, 1, 1)), ("under", (0, 1, 1), X, X), ("under", X, X, (0, 1, 1)),
    ("under", X, (0, 1, 1), X, X), ("leaves", X), ("leaves", X, 2), ("leaves", X, 2, 0, 0), ("leaves", 2, 0, X),
    ("leaves", X, 1, 0), ("leaves", X, 10, 0), ("leaves", X, 0, 0), ("leaves", X, -2, 0), ("leaves", X, 2, 2),
    ("leaves", X, 9, 9), ("leaves", X, 2, -1), ("leaves", X, True, 0), ("leaves", X, 2, True), ("leaves", X, 2, False),
    ("leaves", X, "2", 0), ("leaves", X, 2, None), ("leaves", X, 10 ** 5000, 0), ("leaves", X, 2, X),
    ("not",), ("not", PLAIN, PLAIN), ("and",), ("and", PLAIN), ("or",), ("or", PLAIN), ("and", *[PLAIN] * 5),
    ("or", *[PLAIN] * 5), ("or", *[PLAIN] * 30), ("some",), ("some", "x"), ("some", PLAIN), ("some", PLAIN, "x"),
    ("some", "x", PLAIN, PLAIN), ("some", "x", "y", PLAIN), ("some", ("x",), PLAIN), ("all",), ("all", "x"),
    ("all", "x", PLAIN, PLAIN), ("all", PLAIN), ("use",), ("use", "even"), ("use", "even", ("x",), ("x",)),
    ("use", ("x",), "even"), ("use", "even", "x"), ("use", "even", ["x"]), ("use", "even", ("x",) * 4),
    ("use", "even", None), ("use", "even", X), ("use", "even", "abc"), ("use", "even", {"x": 1}), ("", X, X),
    ("even", ("x",)), ("floor", (0, 1, 1), X), ("Not", PLAIN), ("AND", PLAIN, PLAIN),
    *[(word, X, value) for word in ("equal", "less") for value in NO_TERMS],
    *[(word, value, X) for word in ("equal", "less") for value in NO_TERMS],
    *[("under", value, (0, 1, 1), X) for value in NO_TERMS], *[("under", X, (0, 1, 1), value) for value in NO_TERMS],
    *[("under", X, value, X) for value in NO_SLOPES], *[("leaves", value, 2, 0) for value in NO_TERMS],
    *[("leaves", X, value, 0) for value in NO_INTEGERS], *[("leaves", X, 9, value) for value in NO_INTEGERS],
    *[(word, value, PLAIN) for word in ("some", "all") for value in NO_VARIABLES],
    *[("use", value, ()) for value in NO_NAMES], *[("use", "even", ("x", value)) for value in NO_VARIABLES],
]


def chain(many, last=BARE):
    """A saying of so many parts, each in the one before it."""
    for _ in range(many - 1):
        last = ("not", last)
    return last


def wide(many):
    """A saying of so many parts that do not stand deep."""
    parts = [BARE] * many
    while len(parts) > 1:
        if len(parts) <= 5:
            return ("and", *parts[1:]) if len(parts) > 2 else ("not", parts[1])
        parts = [*parts[:-5], ("or", *parts[-4:])]
    return parts[0]


class Case(unittest.TestCase):
    def check_valid(self, saying):
        self.assertIs(is_saying(saying), True)
        self.assertIsNone(check_saying(saying))

    def check_wrong(self, saying, number):
        self.assertIs(is_saying(saying), False)
        error = raised(check_saying, saying)
        self.assertIs(type(error), InvalidSaying)
        self.assertEqual((error.number, type(error.number)), (number, int))


class FormTest(Case):
    def test_drawn_sayings(self):
        random = seeded("sayings")
        words, sizes = set(), set()
        for _ in range(1500):
            saying = any_saying(random)
            self.check_valid(saying)
            words |= {part[0] for part, _ in parts_with_around(saying)}
            sizes.add(len(parts_with_around(saying)))
        self.assertEqual(words, {"equal", "less", "under", "leaves", "not", "and", "or", "some", "all", "use"})
        self.assertEqual(sizes, set(range(1, 21)))

    def test_edges(self):
        for divisor in range(2, 10):
            for rest in range(divisor):
                self.check_valid(("leaves", X, divisor, rest))
            self.check_wrong(("leaves", X, divisor, divisor), 0)
        for many in range(8):
            for word in ("and", "or"):
                saying = (word, *[PLAIN] * many)
                if 2 <= many <= 4:
                    self.check_valid(saying)
                else:
                    self.check_wrong(saying, 0)
            if many <= 3:
                self.check_valid(("use", "even", ("x",) * many))
            else:
                self.check_wrong(("use", "even", ("x",) * many), 0)
        for name in NAMES:
            self.check_valid(("use", name, ("x", "y", "x")))
        for name in VARIABLES:
            self.check_valid(("some", name, ("all", "qq", ("use", "even", (name, "qq", name)))))

    def test_misformed(self):
        for value in MISFORMED:
            self.check_wrong(value, 0)
            self.check_wrong(("not", value), 1)
            self.check_wrong(("and", PLAIN, ("some", "k", value), ("nonsense",)), 3)
        self.assertIs(is_saying(value=PLAIN), True)
        self.assertIsNone(check_saying(value=PLAIN))

    def test_one_part_bent(self):
        random = seeded("bent")
        for _ in range(1500):
            saying = any_saying(random)
            at = random.randrange(len(parts_with_around(saying)))
            self.check_wrong(with_parts(saying, {at: random.choice(MISFORMED)}), at)

    def test_two_parts_bent(self):
        random = seeded("twice")
        for _ in range(500):
            saying = any_saying(random)
            leaves = [n for n, (part, _) in enumerate(parts_with_around(saying)) if not inner_places(part)]
            first, second = sorted((random.choice(leaves), random.choice(leaves)))
            bent = {first: random.choice(MISFORMED), second: random.choice(MISFORMED)}
            self.check_wrong(with_parts(saying, bent), first)

    def test_values_of_any_depth(self):
        for value in ((), [], None, "x"):
            for _ in range(30):
                value = (value,)
            self.check_wrong(value, 0)
            self.check_wrong(("not", value), 1)
        # The parts of this value are far too many to be looked at.
        saying = BARE
        for _ in range(60):
            saying = ("and", saying, saying, saying, saying)
        self.check_wrong(saying, 20)
        self.check_wrong(("or", ("not",), saying), 1)
        self.check_wrong(("or", saying, ("not",)), 20)


class ManyPartsTest(Case):
    def test_up_to_twenty(self):
        for many in range(1, 26):
            for saying in (chain(many), wide(many)):
                self.assertEqual(len(parts_with_around(saying)), many)
                if many <= 20:
                    self.check_valid(saying)
                else:
                    self.check_wrong(saying, 20)

    def test_drawn_sayings(self):
        random = seeded("many")
        for _ in range(400):
            many = random.randint(15, 24)
            saying = chain(many) if random.random() < 0.2 else wide(many)
            for _ in range(many):
                leaves = [n for n, (part, _) in enumerate(parts_with_around(saying)) if not inner_places(part)]
                saying = with_parts(saying, {random.choice(leaves): any_comparison(random, ("x", "y"))})
            if many <= 20:
                self.check_valid(saying)
            else:
                self.check_wrong(saying, 20)
            at = random.randrange(many)
            self.check_wrong(with_parts(saying, {at: random.choice(MISFORMED)}), min(at, 20))

    def test_forms_and_sizes_come_before_variables(self):
        four = ("use", "even", ("x", "y", "z")), ("equal", (((1, "a"),), 0), ONE)
        self.check_wrong(("and", *four), 0)
        self.check_wrong(("and", *four, ("not",)), 3)
        self.check_wrong(("and", *four, ("all", "x", ("some", "x", chain(14)))), 0)
        self.check_wrong(("and", *four, ("all", "x", ("some", "x", chain(15)))), 0)
        self.check_wrong(("and", *four, ("all", "x", ("some", "x", chain(16)))), 20)
        self.check_wrong(("some", "x", ("some", "x", ("or", PLAIN, 7))), 4)
        self.check_wrong(("some", "x", ("some", "x", ("or", PLAIN, PLAIN))), 1)


class VariableTest(Case):
    def test_again_bound(self):
        self.check_wrong(("some", "x", ("some", "x", PLAIN)), 1)
        self.check_wrong(("some", "x", ("all", "x", BARE)), 1)
        self.check_wrong(("all", "x", ("not", ("and", PLAIN, ("some", "y", ("not", ("all", "x", PLAIN)))))), 6)
        self.check_valid(("and", ("some", "x", PLAIN), ("all", "x", PLAIN), ("some", "x", ("not", PLAIN))))

    def test_bound_and_free(self):
        self.check_wrong(("and", PLAIN, ("some", "x", PLAIN)), 2)
        self.check_wrong(("and", ("some", "x", PLAIN), PLAIN), 1)
        self.check_wrong(("and", ("some", "x", BARE), ("use", "even", ("y", "x"))), 1)
        inside = (((2, ("floor", (0, 1, 1), (((1, ("floor", (1, 0, 2), X)),), 0))),), 0)
        for part in (("equal", ONE, inside), ("less", inside, ONE), ("under", ONE, (0, 1, 1), inside),
                     ("under", inside, (0, 1, 1), ONE), ("leaves", inside, 2, 0)):
            self.check_wrong(("or", ("not", ("all", "x", PLAIN)), part), 2)
            self.check_valid(("or", ("not", ("all", "y", ("less", X, Y))), part))

    def test_four_variables(self):
        three, four = ("use", "even", ("x", "y", "z")), ("equal", (((1, "a"), (1, "b")), 0), ONE)
        self.check_valid(three)
        self.check_valid(("and", three, three))
        self.check_wrong(("and", three, ("not", ("leaves", (((1, "a"),), 0), 2, 0))), 0)
        self.check_wrong(("equal", (((1, "a"), (1, "b"), (1, "c"), (1, "d")), 0), ONE), 0)
        # The part that binds the fourth one may stand, what is in it may not.
        self.check_wrong(("not", ("and", three, ("some", "a", BARE))), 4)
        self.check_wrong(("some", "a", ("some", "b", ("some", "c", ("some", "d", BARE)))), 4)
        self.check_valid(("some", "a", ("some", "b", ("some", "c", ("not", BARE)))))
        self.check_wrong(("and", ("some", "c", ("not", ("some", "d", four))), ("not", four)), 4)
        self.check_valid(("and", ("some", "c", ("not", four)), ("some", "d", four)))
        # A variable that is free elsewhere counts at each place.
        self.check_wrong(("and", ("some", "c", ("not", ("some", "d", BARE))), four), 4)

    def test_drawn_sayings(self):
        random = seeded("bound")
        found = {}
        for _ in range(4000):
            names = tuple(random.sample(("x", "y", "z", "a", "b"), random.randint(1, 4)))
            saying = self.any_shape(random, random.randint(1, 4), names)
            if len(parts_with_around(saying)) > 20:
                continue
            number = first_misbound(saying)
            found[number] = found.get(number, 0) + 1
            if number is None:
                self.check_valid(saying)
            else:
                self.check_wrong(saying, number)
        self.assertGreater(found[None], 300)
        self.assertTrue(all(found.get(number, 0) > 10 for number in range(6)), found)

    def any_shape(self, random, deep, names):
        word = random.choice(("plain", "not", "and", "some", "all")) if deep else "plain"
        if word == "plain":
            return any_comparison(random, names)
        if word == "not":
            return word, self.any_shape(random, deep - 1, names)
        if word == "and":
            return word, *(self.any_shape(random, deep - 1, names) for _ in range(random.randint(2, 3)))
        return word, random.choice(names), self.any_shape(random, deep - 1, names)


class PartTest(Case):
    def test_parts(self):
        random = seeded("parts")
        for _ in range(500):
            saying = any_saying(random)
            expected = [part for part, _ in parts_with_around(saying)]
            found = parts_of(saying)
            self.assertIs(type(found), GeneratorType)
            parts = list(found)
            self.assertEqual(parts, expected)
            self.assertTrue(all(part is other for part, other in zip(parts, expected)))
            self.assertEqual(list(found), [])
            one, other = parts_of(saying), parts_of(saying=saying)
            self.assertEqual([(part, next(other)) for part in one], list(zip(expected, expected)))

    def test_free_variables(self):
        random = seeded("free")
        for _ in range(800):
            saying = any_saying(random)
            found = free_variables(saying)
            self.assertIs(type(found), list)
            self.assertEqual(found, free_in(saying))
            found.append("q")
            self.assertEqual(free_variables(saying), free_in(saying))

    def test_used_names(self):
        random = seeded("used")
        for _ in range(800):
            saying = any_saying(random)
            expected = []
            for part, _ in parts_with_around(saying):
                if part[0] == "use" and part[1] not in expected:
                    expected.append(part[1])
            found = used_names(saying)
            self.assertIs(type(found), list)
            self.assertEqual(found, expected)
            found.clear()
            self.assertEqual(used_names(saying), expected)

    def test_by_hand(self):
        saying = ("and", ("use", "twice", ("z", "x")), ("some", "y", ("or", ("use", "even", ("y",)), PLAIN)),
                  ("not", ("use", "twice", ("ba", "z"))))
        self.assertEqual(free_variables(saying), ["ba", "x", "z"])
        self.assertEqual(used_names(saying), ["twice", "even"])
        self.assertEqual([part[0] for part in parts_of(saying)],
                         ["and", "use", "some", "or", "use", "equal", "not", "use"])
        self.assertEqual((free_variables(BARE), used_names(BARE), list(parts_of(BARE))), ([], [], [BARE]))
        self.assertEqual(free_variables(("some", "x", ("under", X, (0, 1, 1), Y))), ["y"])
        self.assertEqual(used_names(("or", ("use", "zeta", ()), ("use", "alpha", ()), ("use", "zeta", ()))),
                         ["zeta", "alpha"])

    def test_variables_of_terms(self):
        random = seeded("terms")
        for _ in range(300):
            term = any_term(random, random.sample(VARIABLES, 3))
            part = ("leaves", term, 2, 0)
            self.assertEqual(free_variables(part), sorted(variables_in(part)))


if __name__ == "__main__":
    unittest.main()

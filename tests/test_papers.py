"""Points 15 and 16, and the interface of papers."""

import unittest
from itertools import product

from helpers import PERIODS, ROOTS, all_letters, raised, seeded
from rootfloor.carrying import carried
from rootfloor.compiling import compiled
from rootfloor.errors import UnknownVariable
from rootfloor.fields import Field
from rootfloor.machines import Machine
from rootfloor.papers import LinePaper, Paper, ShadowPaper, line_paper, shadow_paper
from rootfloor.texts import read_saying

EQUATIONS = (
    ({}, 0), ({}, 3), ({"x": 1}, -7), ({"x": -2}, 30), ({"y": 1, "x": -1}, 0), ({"x": 2, "ab": -1}, -13), ({"x": 1, "y": 2}, -30),
    ({"x": 0, "y": 1}, -2),
)
GREAT = (({"x": 1, "y": 1, "z": -1}, 0), ({"b": -2, "a": 1, "x": 1}, 3))


def said(root, text):
    return compiled(Field(root), read_saying(text))


def lines_by_hand(root, factors, constant):
    """The lines of an equation by going over words of letters, with the carried pairs of each."""
    names, period = sorted(factors), PERIODS[root]
    counts = [factors[name] for name in names]
    letters = all_letters(root, len(names))

    def head(word):
        rest = (len(word) - 1) % len(period) + 1 if word else 0
        flags = tuple(int(digit != 0) for digit in word[-1]) if word else (0,) * len(names)
        return rest, flags, tuple(carried(Field(root), counts, constant, list(word)))

    words, known, lines = [()], {head(()): 0}, []
    for word in words:
        rest, flags, pairs = head(word)
        goals = []
        for letter in letters:
            most = [period[len(word) % len(period)] - int(flag or not word) for flag in flags]
            if any(digit > bound for digit, bound in zip(letter, most)):
                goals.append(-1)
                continue
            after = head((*word, letter))
            if after not in known:
                known[after] = len(known)
                words.append((*word, letter))
            goals.append(known[after])
        lines.append((rest, flags, pairs, tuple(goals)))
    return lines


def shadow_by_hand(machine, name):
    """The lines of a shadow by sets of rooms."""
    rows, answers, names, root = machine.rows(), machine.answers(), machine.names(), machine.field.root
    at = names.index(name)
    order = {letter: number for number, letter in enumerate(all_letters(root, len(names)))}
    digits = range(max(PERIODS[root]) + 1)
    hopeful = {room for room, answer in enumerate(answers) if answer}
    while more := {room for room, row in enumerate(rows) if room not in hopeful and hopeful & set(row)}:
        hopeful |= more

    def behind(rooms, letter):
        goals = {rows[room][order[(*letter[:at], digit, *letter[at:])]] for room in rooms for digit in digits}
        return tuple(sorted(goals & hopeful))

    def rank(rooms):
        zeros, reached = (0,) * (len(names) - 1), rooms
        for steps in range(len(rows) + 1):
            if any(answers[room] for room in reached):
                return steps
            reached = behind(reached, zeros)
        return None

    sets, lines = [tuple(sorted({0} & hopeful))], []
    for rooms in sets:
        goals = []
        for letter in all_letters(root, len(names) - 1):
            goal = behind(rooms, letter)
            if goal not in sets:
                sets.append(goal)
            goals.append(sets.index(goal))
        lines.append((rooms, tuple(goals), rank(rooms)))
    return lines


def same_kinds(one, other):
    """Whether two values are equal with equal parts of the same kinds."""
    if type(one) is not type(other) or one != other:
        return False
    return not isinstance(one, (tuple, list)) or all(map(same_kinds, one, other))


def spoilt(random, lines):
    """Lists of lines that differ from the right ones in one place."""
    place = random.randrange(len(lines))
    line = lines[place]

    def with_line(value):
        return [*lines[:place], value, *lines[place + 1:]]

    yield lines[:place] + lines[place + 1:]
    yield [*lines[:place], line, *lines[place:]]
    yield [*lines, line]
    yield with_line(list(line))
    for wrong in (None, 5, "line", (), [], True, line[:-1], (*line, 0), {}, object()):
        yield with_line(wrong)
    for part, value in enumerate(line):
        for wrong in (None if value is not None else 0, "x", (), [*value] if isinstance(value, tuple) else True, (value,)):
            if wrong != value or type(wrong) is not type(value):
                yield with_line((*line[:part], wrong, *line[part + 1:]))
        if isinstance(value, int):
            for wrong in (value + 1, -1 - value, float(value), bool(value)):
                yield with_line((*line[:part], wrong, *line[part + 1:]))
        elif value:
            for wrong in (value[1:], (*value, value[-1]), value[:-1] + (None,), value[::-1]):
                if wrong != value:
                    yield with_line((*line[:part], wrong, *line[part + 1:]))
            ones = [k for k, item in enumerate(value) if item in (0, 1) and type(item) is int]
            for k in ones[:1]:
                yield with_line((*line[:part], (*value[:k], bool(value[k]), *value[k + 1:]), *line[part + 1:]))
            pairs = [k for k, item in enumerate(value) if isinstance(item, tuple)]
            for k in pairs[:1]:
                yield with_line((*line[:part], (*value[:k], list(value[k]), *value[k + 1:]), *line[part + 1:]))
    other = random.randrange(len(lines))
    if lines[other] != line:
        swapped = list(lines)
        swapped[place], swapped[other] = swapped[other], swapped[place]
        yield swapped


class PaperTest(unittest.TestCase):
    def test_base_class(self):
        for lines in ([], [1, None], ((1, 2), [3]), [[1], [2]]):
            paper = Paper(lines)
            self.assertEqual(paper.lines(), list(lines))
            self.assertEqual(paper.told(), f"{len(lines)} lines")
            self.assertIs(paper.holds(), False)
            paper.lines().append(3)
            self.assertEqual(paper.lines(), list(lines))
        lines, inner = [[1], 2], [5]
        lines[0] = inner
        paper = Paper(lines=lines)
        lines.append(7)
        self.assertEqual(paper.lines(), [[5], 2])
        self.assertIs(paper.lines()[0], inner)
        self.assertEqual((LinePaper.__bases__, ShadowPaper.__bases__), ((Paper,), (Paper,)))


class LinePaperTest(unittest.TestCase):
    def test_lines(self):
        for root in ROOTS:
            for factors, constant in EQUATIONS:
                paper = line_paper(Field(root), factors, constant)
                self.assertIs(type(paper), LinePaper)
                wanted = lines_by_hand(root, factors, constant)
                self.assertTrue(same_kinds(paper.lines(), wanted))
                self.assertEqual(paper.told(), f"equation of {len(factors)} names, {len(wanted)} lines")
                self.assertIs(paper.holds(), True)
                self.assertIs(LinePaper(Field(root), factors, constant, wanted).holds(), True)
                self.assertIs(LinePaper(Field(root), factors, constant, tuple(wanted)).holds(), True)
                machine = paper.machine()
                self.assertEqual((type(machine), machine.names()), (Machine, sorted(factors)))
                for numbers in product(range(16), repeat=len(factors)):
                    row = dict(zip(factors, numbers))
                    self.assertIs(machine.is_true(row), sum(factors[name] * row[name] for name in row) + constant == 0)

    def test_three_names(self):
        for root in (2, 5):
            for factors, constant in GREAT:
                paper = line_paper(Field(root), factors, constant)
                self.assertEqual(paper.lines(), lines_by_hand(root, factors, constant))
                for row in product(range(7), repeat=3):
                    row = dict(zip(factors, row))
                    self.assertIs(paper.machine().is_true(row), sum(factors[name] * row[name] for name in row) + constant == 0)
        for root in ROOTS:
            paper = line_paper(Field(root), {"x": 1, "y": -2, "z": 1}, -4)
            self.assertIs(paper.holds(), True)
            self.assertEqual(paper.machine(), said(root, "x + z = 2*y + 4"))

    def test_spoilt_ones(self):
        for root in ROOTS:
            for factors, constant in EQUATIONS[:6]:
                random = seeded(f"spoilt {root} {factors}")
                right = line_paper(Field(root), factors, constant).lines()
                for _ in range(3):
                    for lines in spoilt(random, right):
                        paper = LinePaper(Field(root), factors, constant, lines)
                        self.assertIs(paper.holds(), same_kinds(lines, right))
                        self.assertEqual(paper.told(), f"equation of {len(factors)} names, {len(lines)} lines")
                for wrong in ([], [None], [5], ["x"], [[]], [right]):
                    self.assertIs(LinePaper(Field(root), factors, constant, wrong).holds(), False)

    def test_other_equations(self):
        for root in ROOTS:
            lines = line_paper(Field(root), {"x": 1, "y": -2}, 3).lines()
            for factors, constant in (({"x": 1, "y": -2}, 4), ({"x": 1, "y": -1}, 3), ({"x": -2, "y": 1}, 3), ({"x": 1}, 3), ({"x": 1, "y": -2}, -3)):
                self.assertIs(LinePaper(Field(root), factors, constant, lines).holds(), False)
            self.assertIs(LinePaper(Field(root), {"a": 1, "b": -2}, 3, lines).holds(), True)
            self.assertIs(LinePaper(Field(root), {"b": 1, "a": -2}, 3, lines).holds(), False)
            self.assertIs(LinePaper(Field(2 if root != 2 else 5), {"a": 1, "b": -2}, 3, lines).holds(), False)

    def test_nothing_changes(self):
        factors = {"y": 1, "x": -2}
        paper = line_paper(field=Field(5), factors=factors, constant=3)
        lines = paper.lines()
        other = LinePaper(field=Field(5), factors=factors, constant=3, lines=lines)
        factors["z"] = 1
        lines.append(5)
        paper.lines().pop()
        for here in (paper, other):
            self.assertIs(here.holds(), True)
            self.assertEqual(here.machine().names(), ["x", "y"])
        self.assertEqual(factors, {"y": 1, "x": -2, "z": 1})


class ShadowPaperTest(unittest.TestCase):
    TEXTS = ("x = 7", "leaves(x, 3, 1)", "x < 5", "x < 0", "x = 2*y", "x < y", "(y < 6 and floor(r, y) < x)", "x + y = 2*k", "1 = 1")

    def test_lines(self):
        for root in ROOTS:
            for text in self.TEXTS[:-1]:
                machine = said(root, text)
                for name in machine.names():
                    paper = shadow_paper(machine, name)
                    self.assertIs(type(paper), ShadowPaper)
                    wanted = shadow_by_hand(machine, name)
                    self.assertTrue(same_kinds(paper.lines(), wanted))
                    self.assertEqual(paper.told(), f"some {name}, {len(wanted)} lines")
                    self.assertIs(paper.holds(), True)
                    self.assertIs(ShadowPaper(machine, name, wanted).holds(), True)
                    self.assertEqual(paper.machine(), machine.some(name))

    def test_spoilt_ones(self):
        for root in ROOTS:
            for text in self.TEXTS[:6]:
                machine = said(root, text)
                name = machine.names()[-1]
                random = seeded(f"spoilt {root} {text}")
                right = shadow_paper(machine, name).lines()
                for _ in range(3):
                    for lines in spoilt(random, right):
                        paper = ShadowPaper(machine, name, lines)
                        self.assertIs(paper.holds(), same_kinds(lines, right))
                        self.assertEqual(paper.told(), f"some {name}, {len(lines)} lines")
                for wrong in ([], [None], [5], ["x"], [[]], [right]):
                    self.assertIs(ShadowPaper(machine, name, wrong).holds(), False)

    def test_other_machines(self):
        for root in ROOTS:
            machine = said(root, "x = 2*y")
            lines = shadow_paper(machine, "x").lines()
            self.assertIs(ShadowPaper(machine, "y", lines).holds(), False)
            self.assertIs(ShadowPaper(said(root, "y = 2*x"), "x", lines).holds(), False)
            self.assertIs(ShadowPaper(said(root, "a = 2*b"), "a", lines).holds(), True)
            self.assertIs(ShadowPaper(said(root, "a = 2*b"), "b", lines).holds(), False)

    def test_errors(self):
        for machine in (Machine.everything(Field(5)), said(5, "x < y")):
            for name in ("z", "", "r", "xy"):
                error = raised(shadow_paper, machine=machine, name=name)
                self.assertEqual((type(error), error.name), (UnknownVariable, name))


if __name__ == "__main__":
    unittest.main()

"""Point 14: cursors and readers."""

import unittest

from helpers import GREATEST, NO_NUMBERS, ROOTS, any_number, raised, seeded
from rootfloor.compiling import compiled
from rootfloor.errors import InvalidNumber, NotSingle, NothingLeft
from rootfloor.fields import Field
from rootfloor.listing import Cursor, Reader
from rootfloor.machines import Machine
from rootfloor.texts import read_saying

KINDS = (Cursor, Reader)
# Sayings, what the number with an index is, and how many numbers there are.
LISTS = (
    ("leaves(x, 7, 3)", lambda index: 7 * index + 3, None), ("x = x", lambda index: index, None),
    ("11 < x", lambda index: index + 12, None), ("x < 30", lambda index: index, 30),
    ("some y (x = 5*y + 2 and y < 900)", lambda index: 5 * index + 2, 900), ("x < 0", lambda index: None, 0),
    ("x = 6", lambda index: 6, 1),
)


def said(root, text):
    return compiled(Field(root), read_saying(text))


class Model:
    """A cursor by formulas."""

    def __init__(self, number, total):
        self.number, self.total = number, total
        self.position, self.moves, self.seen = 0, 0, []

    def place(self):
        return None if self.position == self.total else self.number(self.position)

    def can_stand(self, position):
        return position >= 0 and (self.total is None or position <= self.total)

    def go(self, position):
        self.moves += position != self.position
        self.position = position

    def below(self, bound):
        """How many numbers are less than a bound, by halving."""
        low, high = 0, bound if self.total is None else self.total
        while low < high:
            middle = (low + high) // 2
            if self.number(middle) < bound:
                low = middle + 1
            else:
                high = middle
        return low


class Case(unittest.TestCase):
    def check(self, cursor, model):
        self.assertEqual((cursor.position, cursor.place, len(cursor)), (model.position, model.place(), model.moves))
        self.assertEqual(repr(cursor), f"Cursor(position {model.position})")
        if isinstance(cursor, Reader):
            seen = cursor.seen()
            self.assertEqual(seen, model.seen)
            seen.append(5)
            self.assertEqual(cursor.seen(), model.seen)

    def refuse(self, kind, cursor, model, call, *items):
        error = raised(call, *items)
        self.assertIs(type(error), kind)
        self.check(cursor, model)
        return error

    def move(self, random, cursor, model):
        """One move of any kind, the same of both, or one that is refused."""
        many = random.choice((0, 1, 2, 3, random.randint(0, 40), any_number(random, 30)))
        word = random.choice(("forward", "back", "seek", "assign", "move_to"))
        if word == "forward":
            target = model.position + many
            if not model.can_stand(target):
                self.refuse(NothingLeft, cursor, model, cursor.forward, many)
                return
            if isinstance(cursor, Reader):
                model.seen += [model.number(model.position + k) for k in range(min(many, 10))]
            model.go(target)
            self.assertEqual(cursor.forward() if many == 1 else cursor.forward(many=many), model.place())
        elif word == "back":
            if many > model.position:
                self.refuse(NothingLeft, cursor, model, cursor.back, many)
                return
            model.go(model.position - many)
            self.assertEqual(cursor.back() if many == 1 else cursor.back(many=many), model.place())
        elif word == "seek":
            model.go(model.below(many))
            self.assertEqual(cursor.seek(number=many), model.place())
        elif not model.can_stand(many):
            call = cursor.move_to if word == "move_to" else lambda value: setattr(cursor, "position", value)
            self.assertEqual(self.refuse(InvalidNumber, cursor, model, call, many).given, many)
        elif word == "assign":
            model.go(many)
            cursor.position = many
        else:
            model.go(many)
            self.assertIsNone(cursor.move_to(position=many))


class MoveTest(Case):
    def test_any_moves(self):
        for root in ROOTS:
            for kind in KINDS:
                for text, number, total in LISTS:
                    random = seeded(f"moves {root} {kind} {text}")
                    cursor, model = kind(said(root, text)), Model(number, total)
                    self.check(cursor, model)
                    for _ in range(25):
                        self.move(random, cursor, model)
                        self.check(cursor, model)
                    twin, copy = cursor.twin(), Model(number, total)
                    copy.position, copy.moves, copy.seen = model.position, model.moves, list(model.seen)
                    self.assertIs(type(twin), kind)
                    self.check(twin, copy)
                    for _ in range(8):
                        self.move(random, twin, copy)
                        self.check(twin, copy)
                        self.check(cursor, model)
                        self.move(random, cursor, model)
                        self.check(twin, copy)
                        self.check(cursor, model)

    def test_around_the_end(self):
        for root in ROOTS:
            for kind in KINDS:
                machine, model = said(root, "x < 30"), Model(lambda index: index, 30)
                cursor = kind(machine, position=30)
                model.position = 30
                self.check(cursor, model)
                self.assertIsNone(cursor.place)
                self.refuse(NothingLeft, cursor, model, cursor.forward)
                self.assertIsNone(cursor.forward(0))
                self.assertEqual(cursor.back(), 29)
                self.assertIsNone(cursor.forward(1))
                self.refuse(NothingLeft, cursor, model_at(model, 30, 2, [29]), cursor.back, 31)
                self.assertEqual(cursor.back(30), 0)
                self.refuse(NothingLeft, cursor, model_at(model, 0, 3, [29]), cursor.back)
                self.assertIsNone(cursor.seek(30))
                self.assertIsNone(cursor.seek(GREATEST))
                self.check(cursor, model_at(model, 30, 4, [29]))
                for position in (31, GREATEST, *NO_NUMBERS):
                    self.assertIs(raised(kind, machine, position=position).given, position)
                self.assertEqual(kind(machine, position=29).place, 29)

    def test_wrong_values(self):
        for root in (2, 5):
            for kind in KINDS:
                cursor, model = kind(said(root, "leaves(x, 7, 3)"), position=4), Model(LISTS[0][1], None)
                model_at(model, 4, 0, [])
                for wrong in NO_NUMBERS:
                    for call in (cursor.forward, cursor.back, cursor.seek, cursor.move_to,
                                 lambda value: setattr(cursor, "position", value)):
                        self.assertIs(self.refuse(InvalidNumber, cursor, model, call, wrong).given, wrong)
                    error = raised(kind, said(root, "x = x"), position=wrong)
                    self.assertEqual((type(error), error.given), (InvalidNumber, wrong))
                for machine in (Machine.everything(Field(root)), said(root, "x < y")):
                    for position in (0, -1, None):
                        self.assertIs(type(raised(kind, machine, position=position)), NotSingle)
                self.assertIs(type(raised(setattr, cursor, "place", 3)), AttributeError)

    def test_beyond_what_can_be_passed(self):
        for root in (3, 5):
            for kind in KINDS:
                cursor = kind(said(root, "leaves(x, 7, 3)"), position=GREATEST)
                self.assertEqual(cursor.forward(GREATEST), 14 * GREATEST + 3)
                self.assertEqual((cursor.position, len(cursor)), (2 * GREATEST, 1))
                twin = cursor.twin()
                self.assertEqual((twin.position, twin.place, len(twin)), (2 * GREATEST, 14 * GREATEST + 3, 1))
                self.assertEqual(twin.back(GREATEST), 7 * GREATEST + 3)
                self.assertEqual(repr(cursor), f"Cursor(position {2 * GREATEST})")

    def test_no_move(self):
        for kind in KINDS:
            cursor = kind(said(5, "leaves(x, 7, 3)"), position=2)
            cursor.position = 2
            cursor.move_to(2)
            self.assertEqual([cursor.forward(0), cursor.back(0), cursor.seek(11), cursor.seek(17)], [17, 17, 17, 17])
            self.assertEqual((len(cursor), cursor.position), (0, 2))


def model_at(model, position, moves, seen):
    model.position, model.moves, model.seen = position, moves, seen
    return model


class ReaderTest(Case):
    def test_seen(self):
        for root in ROOTS:
            reader = Reader(said(root, "leaves(x, 7, 3)"))
            self.assertIsInstance(reader, Cursor)
            self.assertEqual(reader.seen(), [])
            reader.forward(2)
            reader.forward(10 ** 25)
            wanted = [3, 10, *range(17, 87, 7)]
            self.assertEqual(reader.seen(), wanted)
            reader.back(10 ** 25)
            reader.seek(9)
            reader.position = 40
            reader.move_to(1)
            raised(reader.back, 2)
            raised(reader.forward, -1)
            self.assertEqual(reader.seen(), wanted)
            twin = reader.twin()
            self.assertIs(type(twin), Reader)
            self.assertIsNone(reader.forget())
            self.assertEqual((reader.seen(), twin.seen()), ([], wanted))
            self.assertEqual(reader.forward(), 17)
            self.assertEqual((reader.seen(), twin.seen(), len(reader), len(twin)), ([10], wanted, 7, 6))

    def test_refused_moves(self):
        reader = Reader(said(2, "x < 12"))
        raised(reader.forward, 13)
        self.assertEqual((reader.seen(), len(reader), reader.position), ([], 0, 0))
        reader.forward(12)
        raised(reader.forward)
        reader.forward(0)
        self.assertEqual((reader.seen(), len(reader), reader.place), (list(range(10)), 1, None))


if __name__ == "__main__":
    unittest.main()

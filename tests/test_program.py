"""Point 2 over the whole program: calls by keyword, equal answers to equal calls, and arguments that stay as they are."""

import unittest
from itertools import islice

from helpers import NO_INTEGERS, ROOTS, raised
from rootfloor.answering import against, alike, decide, example, is_function, parting, reply, value_of
from rootfloor.beats import beat, standing
from rootfloor.books import Book
from rootfloor.carrying import carried, is_kept
from rootfloor.compiling import compiled, floor_machine
from rootfloor.errors import InvalidLimit, InvalidNumber
from rootfloor.fields import Field
from rootfloor.listing import (
    Cursor, Reader, count_below, gaps, greatest, is_endless, least_row, number_at, numbers, total,
)
from rootfloor.machines import Machine
from rootfloor.pages import read_book, table, write_book
from rootfloor.papers import LinePaper, Paper, ShadowPaper, line_paper, shadow_paper
from rootfloor.sayings import check_saying, free_variables, is_saying, is_term, parts_of, term_value, used_names
from rootfloor.surds import Surd, is_slope, slope_text
from rootfloor.texts import read_saying, read_term, saying_text, term_text

SLOPE = (1, 1, 2)


def calls(root):
    """Calls by keyword, in an order other than the listed one."""
    field = Field(root=root)
    saying = read_saying(text="(x < 2*y and even(x))")
    known = {"even": (("k",), compiled(saying=read_saying("leaves(k, 2, 0)"), field=field))}
    machine = compiled(limit=500, known=known, names=["y", "x"], saying=saying, field=field)
    single = compiled(saying=read_saying("(x < 90 and leaves(x, 7, 3))"), field=field)
    floors = floor_machine(slope=SLOPE, field=field)
    some, every = read_saying("some x (even(x) and y < x)"), read_saying("all x x < 9")
    book = Book(limit=5, field=field)
    book.apply(("define", "even", ("x",), read_saying("some y x = 2*y")))
    book.set_limit(value=6)
    cursor, reader = Cursor(position=2, machine=single), Reader(position=1, machine=single)
    paper = line_paper(constant=-3, factors={"y": 1, "x": -1}, field=field)
    shadow = shadow_paper(name="y", machine=floors)
    term = read_term(text="floor(r, x) - 2")
    return [
        Surd(k=2, j=1, i=1, root=root), Surd.of_slope(slope=SLOPE, root=root), is_slope(value=SLOPE), slope_text(slope=SLOPE),
        Surd(root, 1).compared(other=Surd(root, 2)), field.part(index=3), field.step(place=4), field.tail(place=1),
        field.digits(number=99), field.value(digits=[0, 0, 1]), field.floor(number=99, slope=SLOPE),
        is_kept(place=1, pair=(2, 1), factors=[1, -2], field=field), carried(letters=[(0, 0)], constant=1, factors=[1, -2], field=field),
        machine, machine.is_true(values={"x": 2, "y": 5}), machine.holds(y=5, x=2), machine.within(other=~machine),
        machine.some(name="x"), machine.every(name="y"), machine.digits_of(index=1), machine.renamed(y="x", x="y"), machine.fixed(y=4),
        is_term(value=term), is_saying(value=saying), check_saying(value=saying), list(parts_of(saying=saying)),
        free_variables(saying=saying), used_names(saying=saying), term_value(values={"x": 7}, term=term, field=field),
        term_text(term=term), saying_text(saying=saying), floors, list(islice(numbers(start=5, machine=single), 9)),
        number_at(index=2, machine=single), count_below(bound=50, machine=single), is_endless(machine=single), total(machine=single),
        greatest(machine=single), gaps(machine=single), least_row(machine=machine),
        cursor.forward(many=2), cursor.back(many=1), cursor.seek(number=40), cursor.move_to(position=3), cursor.place, repr(cursor),
        reader.forward(many=3), reader.seen(), len(reader), reader.twin().seen(),
        decide(known=known, saying=read_saying("all x (even(x) or not even(x))"), field=field),
        example(known=known, saying=read_saying("some x (even(x) and 3 < x)"), field=field),
        against(known=None, saying=every, field=field), reply(known=known, values={"y": 9}, saying=some, field=field),
        alike(field, saying, saying, known=known), parting(known=known, other=every, one=read_saying("all x x < 9"), field=field),
        is_function(name="y", machine=floors), value_of(values={"x": 40}, name="y", machine=floors),
        beat(many=5, start=9, slope=SLOPE, field=field), standing(row=[beat(field, SLOPE, 3, 1)[0]], slope=SLOPE, field=field),
        Paper(lines=[1]).lines(), paper.told(), paper.lines(), LinePaper(lines=paper.lines(), constant=-3, factors={"y": 1, "x": -1}, field=field).holds(),
        shadow.told(), ShadowPaper(lines=shadow.lines(), name="y", inner=floors).holds(), shadow.machine(), paper.machine(),
        book.variables(name="even"), book.saying(name="even"), book.users(name="even"), book.machine(name="even"), book.holds("even", 4),
        book.kept(), book.history(), write_book(book=book), read_book(text=write_book(book)), table(most=3, machine=machine),
    ]


class RepeatTest(unittest.TestCase):
    def test_in_turn_and_again(self):
        first = {root: calls(root) for root in ROOTS}
        for root in (*ROOTS[::-1], *ROOTS):
            self.assertEqual(calls(root), first[root])
        kinds = [list(map(type, found)) for found in first.values()]
        self.assertTrue(all(found == kinds[0] for found in kinds))

    def test_sayings_in_turn(self):
        texts = ("floor(r, x) = y", "x < 2*y", "leaves(x + y, 3, 1)", "floor((1+r)/2, x) = y", "under(x, r, y)")
        found = {}
        for _ in range(3):
            for root in ROOTS:
                for text in texts:
                    machine = compiled(Field(root), read_saying(text))
                    told = machine.rows(), machine.answers(), machine.names()
                    self.assertEqual(found.setdefault((root, text), told), told)


class ArgumentTest(unittest.TestCase):
    def test_known_and_names(self):
        for root in ROOTS:
            field, names = Field(root), ["y", "x"]
            known = {"even": (["k"], compiled(field, read_saying("leaves(k, 2, 0)")))}
            saying = read_saying("(even(x) and x < y)")
            machine = compiled(field, saying, names=names, known=known)
            rows = machine.rows()
            self.assertEqual((names, list(known), known["even"][0]), (["y", "x"], ["even"], ["k"]))
            names.append("z")
            known["even"][0].append("z")
            known.clear()
            self.assertEqual((machine.rows(), machine.names()), (rows, ["x", "y"]))

    def test_rows_and_lists(self):
        for root in ROOTS:
            field = Field(root)
            values = {"x": 4, "y": 3, "other": None}
            machine = compiled(field, read_saying("x < 2*y"))
            machine.is_true(values)
            reply(field, read_saying("some z x + y < z"), values)
            value_of(compiled(field, read_saying("x + y = z")), "z", values)
            self.assertEqual((values, list(values)), ({"x": 4, "y": 3, "other": None}, ["x", "y", "other"]))
            told = least_row(machine)
            told["x"] = 9
            told.clear()
            self.assertEqual(least_row(machine), {"x": 0, "y": 1})
            factors, lines = {"x": 1}, line_paper(field, {"x": 1}, -3).lines()
            paper = LinePaper(field, factors, -3, lines)
            factors["x"] = 2
            lines.clear()
            self.assertIs(paper.holds(), True)
            shadow = shadow_paper(machine, "x")
            shadow.lines().clear()
            self.assertIs(shadow.holds(), True)
            digits, letters, counts = [0, 0, 1], [(0, 0), (0, 0)], [1, -1]
            field.value(digits)
            carried(field, counts, 0, letters)
            self.assertEqual((digits, letters, counts), ([0, 0, 1], [(0, 0), (0, 0)], [1, -1]))

    def test_what_is_told_is_new(self):
        book = Book(Field(5))
        book.apply(("define", "even", ("x",), read_saying("some y x = 2*y")))
        book.machine("even")
        reader = Reader(book.machine("even"))
        reader.forward(3)
        for tell in (book.names, book.kept, lambda: book.users("even"), reader.seen, book.machine("even").rows, book.machine("even").answers,
                     book.machine("even").names, lambda: beat(Field(5), SLOPE, 0, 4), lambda: Field(5).digits(50)):
            told = tell()
            wanted = list(told)
            told.append(None)
            self.assertEqual(tell(), wanted)

    def test_the_machine_of_a_book_is_not_changed(self):
        book = Book(Field(2))
        book.apply(("define", "even", ("x",), read_saying("some y x = 2*y")))
        machine = book.machine("even")
        machine.rows()[0][0] = 5
        machine.answers().clear()
        _ = machine | Machine.everything(Field(2), "y"), ~machine, machine.renamed(x="k")
        self.assertEqual(book.machine("even"), compiled(Field(2), read_saying("leaves(x, 2, 0)")))


class KindTest(unittest.TestCase):
    def test_no_numbers(self):
        field = Field(5)
        single = compiled(field, read_saying("leaves(x, 3, 1)"))
        cursor = Cursor(single)
        for wrong in NO_INTEGERS:
            for call in (
                field.part, field.step, field.tail, field.digits, lambda value: field.floor(SLOPE, value), single.digits_of,
                lambda value: single.fixed(x=value), lambda value: next(numbers(single, start=value)), lambda value: number_at(single, value),
                lambda value: count_below(single, value), lambda value: Cursor(single, position=value), cursor.forward, cursor.back, cursor.seek,
                cursor.move_to, lambda value: setattr(cursor, "position", value), lambda value: beat(field, SLOPE, value, 1),
                lambda value: beat(field, SLOPE, 0, value), lambda value: Reader(single, position=value),
            ):
                error = raised(call, wrong)
                self.assertIs(type(error), InvalidNumber, wrong)
                self.assertIs(error.given, wrong)
            self.assertEqual((cursor.position, cursor.place, len(cursor)), (0, 1, 0))

    def test_no_limits(self):
        book = Book(Field(5), limit=7)
        for wrong in NO_INTEGERS:
            for call in (book.set_limit, lambda value: setattr(book, "limit", value), lambda value: Book(Field(5), limit=value)):
                error = raised(call, wrong)
                self.assertIs(type(error), InvalidLimit)
                self.assertIs(error.given, wrong)
            self.assertEqual(book.limit, 7)


if __name__ == "__main__":
    unittest.main()

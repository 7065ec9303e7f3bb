"""Point 20 and the interface of pages: pages of books, and tables of machines."""

import unittest

from helpers import NAMES, ROOTS, any_saying, free_in, raised, seeded
from rootfloor.books import Book
from rootfloor.compiling import compiled
from rootfloor.errors import ParseError
from rootfloor.fields import Field
from rootfloor.machines import Machine
from rootfloor.pages import read_book, table, write_book
from rootfloor.sayings import used_names
from rootfloor.texts import read_saying, saying_text


def any_book(random, root, many=6):
    """A book of drawn sayings, some of which use others."""
    book = Book(Field(root), limit=20)
    names = random.sample(NAMES, many)
    while names:
        saying = any_saying(random, 6)
        counts = {name: len(book.variables(name)) for name in book.names()}
        if used_names(saying):
            if not counts:
                continue
            used = random.choice(list(counts))
            saying = ("use", used, tuple(random.choice(("x", "y")) for _ in range(counts[used])))
        variables = free_in(saying)
        random.shuffle(variables)
        book.apply(("define", names.pop(), tuple(variables), saying))
    return book


class PageTest(unittest.TestCase):
    def check_error(self, text, line):
        error = raised(read_book, text)
        self.assertIs(type(error), ParseError, text)
        self.assertEqual(error.line, line, text)

    def test_by_hand(self):
        book = Book(Field(13))
        self.assertEqual(write_book(book), "root 13\n")
        book.apply(("define", "even", ("x",), read_saying("some y x = 2*y")))
        book.apply(("define", "never", (), read_saying("1 < 0")))
        book.apply(("define", "three", ("z", "x", "ab"), read_saying("((even(x) or never()) and z < ab)")))
        page = "root 13\neven(x): some y x = 2*y\nnever(): 1 < 0\nthree(z, x, ab): ((even(x) or never()) and z < ab)\n"
        self.assertEqual(write_book(book=book), page)
        self.assertEqual(read_book(page), book)

    def test_there_and_back(self):
        for root in ROOTS:
            random = seeded(f"pages {root}")
            for _ in range(6):
                book = any_book(random, root)
                book.undo()
                page = write_book(book)
                lines = [f"{name}({', '.join(book.variables(name))}): {saying_text(book.saying(name))}\n" for name in book.names()]
                self.assertEqual(page, f"root {root}\n" + "".join(lines))
                found = read_book(text=page)
                self.assertIs(type(found), Book)
                self.assertEqual(found, book)
                self.assertEqual((found.limit, found.history(), found.kept(), found.computed, found.busy), (20, (0, 0), [], 0, False))
                self.assertEqual(write_book(found), page)
                found.apply(("define", "zzzz", (), read_saying("1 = 1")))
                self.assertEqual(found.history(), (1, 0))

    def test_wrong_lines(self):
        for root in ROOTS:
            lines = [f"root {root}", "even(x): leaves(x, 2, 0)", "odds(x): not even(x)", "free(y, x): (odds(x) or leaves(y, 3, 1))"]
            page = "\n".join(lines) + "\n"
            self.assertEqual(write_book(read_book(page)), page)
            for number, line in enumerate(lines):
                for wrong in (line + " ", " " + line, line[:-1], line[1:], line + "\n", "", line.replace(" ", "  ", 1), line.upper(),
                              line.replace(":", "", 1), line.replace("(", "", 1), "x: " + line, line + ")", "abcd(x):x = 1", "abcd: 1 = 1",
                              "abcd(x, x): x = 1", "abcd(x,y): x = y", "abcd(x): x = y", "ab(x): x = 1", "some(x): x = 1", "abcd(): zzzz()",
                              "abcd(): abcd()", "abcd(x): (x = 1)", "abcd (x): x = 1", "abcd(r): 1 = 1", "abcd(w, x, y, z): 1 = 1", "root 7"):
                    text = "\n".join([*lines[:number], wrong, *lines[number + 1:]]) + "\n"
                    if wrong != line:
                        self.check_error(text, number + wrong.endswith("\n"))
                self.check_error("\n".join(lines[:number + 1]), number)
                if number > 0:
                    self.check_error("\n".join([*lines, line]) + "\n", len(lines))
                    self.check_error("\n".join([*lines[:number], line, *lines[number:]]) + "\n", number + 1)
            self.check_error(page + page, len(lines))
            self.check_error(page + " ", len(lines))
            self.check_error(page[:-1], len(lines) - 1)
            self.check_error("\n" + page, 0)
        for text in ("", "\n", "root", "root 5", "root 4\n", "root 05\n", "root 5 \n", "Root 5\n", "root  5\n", "5\n", "root -5\n", " root 5\n"):
            self.check_error(text, 0)
        self.assertEqual(read_book("root 5\n"), Book(Field(5)))
        self.check_error("root 5\n\n", 1)

    def test_exchanged_lines(self):
        page = "root 2\neven(x): leaves(x, 2, 0)\nodds(x): not even(x)\nfree(y): y = 1\n"
        first, even, odds, free = page.split("\n")[:-1]
        self.check_error("\n".join([first, odds, even, free, ""]), 1)
        self.check_error("\n".join([even, first, odds, free, ""]), 0)
        self.check_error("\n".join([first, even, even.replace("even(x)", "even(y)"), odds, ""]), 2)
        turned = read_book("\n".join([first, free, even, odds, ""]))
        self.assertEqual(turned.names(), ["free", "even", "odds"])
        self.assertNotEqual(turned, read_book(page))

    def test_twenty_definitions(self):
        names = [f"name{letter}" for letter in "abcdefghijklmnopqrstu"]
        lines = ["root 3", *(f"{name}(): 1 = 1" for name in names)]
        self.assertEqual(read_book("\n".join(lines[:21]) + "\n").names(), names[:20])
        self.check_error("\n".join(lines) + "\n", 21)


class TableTest(unittest.TestCase):
    def test_by_hand(self):
        machine = Machine.everything(Field(5), "x")
        self.assertEqual(table(machine), "   0 yes    1    2\n   1 yes    1    0\n   2 no     2    2\n")
        self.assertEqual(table(Machine.everything(Field(2))), "   0 yes    0\n")
        self.assertEqual(table(Machine.nothing(Field(2), "x"), most=50), "   0 no     0    0    0\n")

    def test_rooms(self):
        for root in ROOTS:
            for text in ("leaves(x, 7, 3)", "x < 2*y", "x = 5", "floor(r, x) = y", "not x = y + 3"):
                machine = compiled(Field(root), read_saying(text))
                rows, answers = machine.rows(), machine.answers()
                wanted = [
                    str(room).rjust(4) + " " + ("yes" if answers[room] else "no ") + "".join(str(goal).rjust(5) for goal in rows[room]) + "\n"
                    for room in range(len(rows))
                ]
                for most in (0, 1, 2, 9, 10, 11, 50):
                    self.assertEqual(table(machine=machine, most=most), "".join(wanted[:most]))
                self.assertEqual(table(machine), "".join(wanted[:10]))


if __name__ == "__main__":
    unittest.main()

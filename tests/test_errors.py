"""Point 2 and the interface of errors: tags, attributes and base classes."""

import ast
import unittest
from pathlib import Path

from helpers import raised
from rootfloor import errors
from rootfloor.answering import decide, example, value_of
from rootfloor.books import Book
from rootfloor.compiling import compiled, floor_machine
from rootfloor.fields import Field
from rootfloor.listing import Cursor, total
from rootfloor.machines import Machine
from rootfloor.pages import read_book
from rootfloor.texts import read_saying

ROOT_ERRORS = {
    "InvalidRoot": "given", "InvalidNumber": "given", "InvalidSlope": "given", "InvalidDigits": "index",
    "InvalidVariables": "name", "InvalidSaying": "number", "InvalidText": None, "FieldsDiffer": None,
    "FreeVariable": "name", "WrongCount": "name", "TooMany": "limit", "InvalidRow": "name", "NotSingle": None,
    "Endless": None, "NotFunction": "name", "NoTurn": None, "InvalidName": "name", "DuplicateName": "name",
    "CapacityExceeded": "limit", "InvalidCommand": "word", "InUse": "name", "InvalidLimit": "given",
    "ParseError": "line",
}
MISSING = {"UnknownName": "name", "UnknownVariable": "name"}
OTHERS = {"NothingLeft": None}
ALL = {**ROOT_ERRORS, **MISSING, **OTHERS}
# Subclasses that the document itself names, in modules that come later.
NAMED_BASES = {("Reader", "Cursor"), ("LinePaper", "Paper"), ("ShadowPaper", "Paper")}
PACKAGE = Path(__file__).resolve().parent.parent / "rootfloor"


class ErrorTest(unittest.TestCase):
    def test_attributes(self):
        for name, attribute in ALL.items():
            make = getattr(errors, name)
            if attribute is None:
                self.assertEqual(vars(make()), {"tag": name})
                self.assertRaises(TypeError, make, 1)
                continue
            self.assertRaises(TypeError, make)
            self.assertRaises(TypeError, make, 1, 2)
            self.assertRaises(TypeError, make, unknown=1)
            for value in (7, "word", None, (1, [2]), [3], True, 10 ** 5000, -1):
                for error in (make(value), make(**{attribute: value})):
                    self.assertEqual(vars(error), {"tag": name, attribute: value})
                    self.assertIs(getattr(error, attribute), value)

    def test_bases(self):
        self.assertEqual(errors.RootError.__bases__, (ValueError,))
        self.assertEqual(errors.Missing.__bases__, (LookupError,))
        self.assertEqual(errors.NothingLeft.__bases__, (IndexError,))
        for name in ROOT_ERRORS:
            self.assertEqual(getattr(errors, name).__bases__, (errors.RootError,))
        for name in MISSING:
            self.assertEqual(getattr(errors, name).__bases__, (errors.Missing,))

    def test_base_classes_have_no_tag(self):
        for base in (errors.RootError, errors.Missing):
            self.assertFalse(hasattr(base, "tag"))
            self.assertFalse(hasattr(base("words"), "tag"))

    def test_nothing_else_stands_there(self):
        found = {name for name, value in vars(errors).items() if isinstance(value, type)}
        self.assertEqual(found, {"RootError", "Missing", *ALL})
        for name in found:
            self.assertEqual(getattr(errors, name).__module__, "rootfloor.errors")

    def test_caught_by_their_bases(self):
        for name in ROOT_ERRORS:
            with self.assertRaises(ValueError):
                raise made(name)
        for name in MISSING:
            with self.assertRaises(LookupError):
                raise made(name)
            self.assertNotIsInstance(made(name), (KeyError, IndexError, ValueError))
        with self.assertRaises(IndexError):
            raise errors.NothingLeft()

    def test_messages_can_be_written(self):
        for name, attribute in ALL.items():
            make = getattr(errors, name)
            error = make() if attribute is None else make(10 ** 5000)
            self.assertTrue(str(error))

    def test_errors_of_calls(self):
        field, strange = Field(5), Field(2)
        saying, other = read_saying("x < y"), read_saying("even(x)")
        book = Book(field, limit=2)
        book.apply(("define", "pair", ("x", "y"), saying), ("define", "swap", ("x", "y"), read_saying("pair(y, x)")))
        machine, single = compiled(field, saying), compiled(field, read_saying("x < 9"))
        for kind, value, call in (
            ("InvalidRoot", 4, lambda: Field(4)), ("InvalidNumber", -1, lambda: field.digits(-1)),
            ("InvalidSlope", (1, 2), lambda: floor_machine(field, (1, 2))), ("InvalidDigits", 1, lambda: field.value([0, 7])),
            ("InvalidVariables", "R", lambda: machine.widened("R")), ("InvalidSaying", 0, lambda: compiled(field, None)),
            ("InvalidText", None, lambda: read_saying("x")),
            ("FieldsDiffer", None, lambda: machine & Machine.everything(strange)),
            ("FreeVariable", "x", lambda: decide(field, saying)),
            ("WrongCount", "even", lambda: decide(field, other, known={"even": ((), Machine.nothing(field))})),
            ("TooMany", 1, lambda: compiled(field, saying, limit=1)), ("InvalidRow", "y", lambda: machine.holds(x=1)),
            ("NotSingle", None, lambda: total(machine)), ("Endless", None, lambda: total(~single)),
            ("NotFunction", "y", lambda: value_of(machine, "y", {"x": 1})),
            ("NoTurn", None, lambda: example(field, read_saying("1 = 1"))), ("UnknownName", "even", lambda: decide(field, other)),
            ("UnknownVariable", "z", lambda: machine.some("z")), ("NothingLeft", None, lambda: Cursor(single).forward(10)),
            ("InvalidName", "x", lambda: book.apply(("define", "x", (), None))),
            ("DuplicateName", "pair", lambda: book.apply(("rename", "pair", "pair"))),
            ("CapacityExceeded", 2, lambda: book.apply(("define", "third", (), None))),
            ("InvalidCommand", "pair", lambda: book.apply(["pair"])), ("InUse", "swap", lambda: book.apply(("drop", "pair"))),
            ("InvalidLimit", 1, lambda: book.set_limit(1)), ("ParseError", 1, lambda: read_book("root 5\nx")),
            ("NothingLeft", None, lambda: book.redo()), ("UnknownName", "strange", lambda: book.machine("strange")),
        ):
            error = raised(call)
            wanted = {"tag": kind} if value is None and ALL[kind] is None else {"tag": kind, ALL[kind]: value}
            self.assertEqual((type(error), vars(error)), (getattr(errors, kind), wanted))

    def test_no_other_class_is_a_base_class(self):
        for path in sorted(PACKAGE.rglob("*.py")):
            for node in ast.walk(ast.parse(path.read_text(encoding="utf-8"))):
                if not isinstance(node, ast.ClassDef):
                    continue
                for base in node.bases:
                    word = ast.unparse(base)
                    standard = word in ("ValueError", "LookupError", "IndexError", "RootError", "Missing")
                    self.assertTrue(standard or (node.name, word) in NAMED_BASES, (path.name, node.name, word))


def made(name):
    make = getattr(errors, name)
    return make() if ALL[name] is None else make(0)


if __name__ == "__main__":
    unittest.main()

"""Pages: the texts of books, and the tables of machines."""

from rootfloor.books import Book, book_of
from rootfloor.definitions import applied
from rootfloor.errors import Missing, ParseError, RootError
from rootfloor.fields import Field
from rootfloor.texts import read_saying, saying_text


def write_book(book):
    """The page of a book."""
    lines = [f"root {book.field.root}\n"]
    for name in book.names():
        variables = ", ".join(book.variables(name))
        lines.append(f"{name}({variables}): {saying_text(book.saying(name))}\n")
    return "".join(lines)


def read_book(text):
    """The book with a page."""
    *lines, rest = text.split("\n")
    if not lines:
        raise ParseError(0)
    roots = [root for root in Field.ROOTS if lines[0] == f"root {root}"]
    if not roots:
        raise ParseError(0)
    definitions = []
    for number, line in enumerate(lines):
        if number > 0:
            definitions = _with_line(definitions, line, number)
    # The last line has no line feed.
    if rest:
        raise ParseError(len(lines))
    return book_of(Field(roots[0]), definitions)


def _with_line(definitions, line, number):
    """The definitions with that of the line with a number."""
    name, _, behind = line.partition("(")
    inner, _, words = behind.partition("): ")
    variables = tuple(inner.split(", ")) if inner else ()
    try:
        return applied(definitions, ("define", name, variables, read_saying(words)), Book.MOST)
    except (RootError, Missing):
        raise ParseError(number) from None


def table(machine, *, most=10):
    """The first rooms of a machine with their answers and goals, one line for each."""
    answers = machine.answers()
    lines = []
    for room, row in enumerate(machine.rows()[:most]):
        answer = "yes" if answers[room] else "no "
        goals = "".join([f"{goal:>5}" for goal in row])
        lines.append(f"{room:>4} {answer}{goals}\n")
    return "".join(lines)

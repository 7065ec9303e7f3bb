"""The errors that the package raises; each one tells its name by its tag."""


class RootError(ValueError):
    """A value that the package cannot take, or a request that it cannot meet."""


class InvalidRoot(RootError):
    """A value that is no root of a field."""

    def __init__(self, given):
        super().__init__("this is no root of a field")
        self.tag = "InvalidRoot"
        self.given = given


class InvalidNumber(RootError):
    """A value that is no number, or out of its bounds."""

    def __init__(self, given):
        super().__init__("this is no number within the bounds")
        self.tag = "InvalidNumber"
        self.given = given


class InvalidSlope(RootError):
    """A value that is no slope."""

    def __init__(self, given):
        super().__init__("this is no slope")
        self.tag = "InvalidSlope"
        self.given = given


class InvalidDigits(RootError):
    """A digit that cannot stand at its place."""

    def __init__(self, index):
        super().__init__("a digit cannot stand at its place")
        self.tag = "InvalidDigits"
        self.index = index


class InvalidVariables(RootError):
    """A value that cannot be among the variables."""

    def __init__(self, name):
        super().__init__("this cannot be among the variables")
        self.tag = "InvalidVariables"
        self.name = name


class InvalidSaying(RootError):
    """A part of a saying that has not the form of one."""

    def __init__(self, number):
        super().__init__("a part of the saying has a wrong form")
        self.tag = "InvalidSaying"
        self.number = number


class InvalidText(RootError):
    """A text that is not that of a term or saying."""

    def __init__(self):
        super().__init__("the text is none of a term or saying")
        self.tag = "InvalidText"


class FieldsDiffer(RootError):
    """Two things of different fields that are taken together."""

    def __init__(self):
        super().__init__("the fields differ")
        self.tag = "FieldsDiffer"


class FreeVariable(RootError):
    """A free variable that may not be free."""

    def __init__(self, name):
        super().__init__("a variable is free that may not be")
        self.tag = "FreeVariable"
        self.name = name


class WrongCount(RootError):
    """A use with another number of variables or numbers."""

    def __init__(self, name):
        super().__init__("the number of variables is another one")
        self.tag = "WrongCount"
        self.name = name


class TooMany(RootError):
    """A machine with more rooms than the limit."""

    def __init__(self, limit):
        super().__init__("a machine has more rooms than the limit")
        self.tag = "TooMany"
        self.limit = limit


class InvalidRow(RootError):
    """A row without a number for a name."""

    def __init__(self, name):
        super().__init__("the row has no number for a name")
        self.tag = "InvalidRow"
        self.name = name


class NotSingle(RootError):
    """A machine that has not exactly one name."""

    def __init__(self):
        super().__init__("the machine has not exactly one name")
        self.tag = "NotSingle"


class Endless(RootError):
    """A list of numbers that never ends."""

    def __init__(self):
        super().__init__("the list never ends")
        self.tag = "Endless"


class NotFunction(RootError):
    """A name without exactly one number for a row."""

    def __init__(self, name):
        super().__init__("there is not exactly one number for a name")
        self.tag = "NotFunction"
        self.name = name


class NoTurn(RootError):
    """A saying that does not begin with the part that is asked for."""

    def __init__(self):
        super().__init__("the saying does not begin with such a part")
        self.tag = "NoTurn"


class InvalidName(RootError):
    """A value that is no name of a definition."""

    def __init__(self, name):
        super().__init__("this is no name of a definition")
        self.tag = "InvalidName"
        self.name = name


class DuplicateName(RootError):
    """A name that the book has already."""

    def __init__(self, name):
        super().__init__("the book has this name already")
        self.tag = "DuplicateName"
        self.name = name


class CapacityExceeded(RootError):
    """A definition beyond the limit of its book."""

    def __init__(self, limit):
        super().__init__("the book is full")
        self.tag = "CapacityExceeded"
        self.limit = limit


class InvalidCommand(RootError):
    """A value that is no command of a book."""

    def __init__(self, word):
        super().__init__("this is no command")
        self.tag = "InvalidCommand"
        self.word = word


class InUse(RootError):
    """A definition that another saying uses."""

    def __init__(self, name):
        super().__init__("another saying uses this name")
        self.tag = "InUse"
        self.name = name


class InvalidLimit(RootError):
    """A value that is no limit for the book."""

    def __init__(self, given):
        super().__init__("this is no limit for the book")
        self.tag = "InvalidLimit"
        self.given = given


class ParseError(RootError):
    """A line of a page that cannot be read."""

    def __init__(self, line):
        super().__init__("a line of the page cannot be read")
        self.tag = "ParseError"
        self.line = line


class Missing(LookupError):
    """A name that is asked for, but not there."""


class UnknownName(Missing):
    """A name that has no definition."""

    def __init__(self, name):
        super().__init__("there is no such name")
        self.tag = "UnknownName"
        self.name = name


class UnknownVariable(Missing):
    """A variable that is none of the names of a machine."""

    def __init__(self, name):
        super().__init__("the machine has no such name")
        self.tag = "UnknownVariable"
        self.name = name


class NothingLeft(IndexError):
    """A move or a step beyond what there is."""

    def __init__(self):
        super().__init__("there is nothing left")
        self.tag = "NothingLeft"

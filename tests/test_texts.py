"""Point 12: the texts of slopes, terms and sayings, and the reading of such texts."""

import re
import unittest

from helpers import (
    NO_NAMES, NO_VARIABLES, SLOPES, VARIABLES, any_saying, any_term, first_misbound, parts_with_around, raised, seeded,
)
from rootfloor.errors import InvalidText
from rootfloor.surds import slope_text
from rootfloor.texts import read_saying, read_term, saying_text, term_text

X, Y, ZERO = (((1, "x"),), 0), (((1, "y"),), 0), ((), 0)
SIGNS = "abrxyz019+-*/=<(), " + "\n.'\"[]ABRX_{}&;:!#~^|$@?>\\`"


def plain_slope(i, j, k):
    """The text of a slope by the rule, put together in another way than the package does it."""
    multiple = {0: "", 1: "+r", -1: "-r"}.get(j, f"{j:+}r")
    text = (str(i) if i else "") + multiple
    text = text.removeprefix("+") or "0"
    if k != 1:
        text = (f"({text})" if i and j else text) + f"/{k}"
    return text


SLOPE_OF = {plain_slope(*slope): slope for slope in SLOPES}


def plain_term(term):
    """The text of a term, as a joint text of signed pieces of which the first one is then mended."""
    text = ""
    for factor, thing in term[0]:
        size = "" if abs(factor) == 1 else f"{abs(factor)}*"
        name = thing if isinstance(thing, str) else f"floor({plain_slope(*thing[1])}, {plain_term(thing[2])})"
        text += (" + ", " - ")[factor < 0] + size + name
    if term[1] or not term[0]:
        text += (" + ", " - ")[term[1] < 0] + str(abs(term[1]))
    return text.replace(" + ", "", 1) if text.startswith(" + ") else text.replace(" - ", "-", 1)


def plain_saying(saying):
    match saying:
        case "equal", t, u:
            return plain_term(t) + " = " + plain_term(u)
        case "less", t, u:
            return plain_term(t) + " < " + plain_term(u)
        case "under", t, slope, u:
            return "under(" + ", ".join((plain_term(t), plain_slope(*slope), plain_term(u))) + ")"
        case "leaves", t, m, n:
            return "leaves(" + ", ".join((plain_term(t), str(m), str(n))) + ")"
        case "not", s:
            return "not " + plain_saying(s)
        case ("and" | "or") as word, *sayings:
            return "(" + f" {word} ".join(map(plain_saying, sayings)) + ")"
        case ("some" | "all") as word, x, s:
            return " ".join((word, x, plain_saying(s)))
        case "use", name, variables:
            return name + "(" + ", ".join(variables) + ")"


class Strict:
    """A reader of its own that takes the texts of point 12 and nothing else; LookupError for all others."""

    def __init__(self, text):
        self.text, self.at = text, 0

    def take(self, pattern):
        """The text that a pattern matches here; None if it does not."""
        found = re.compile(pattern).match(self.text, self.at)
        if found is None:
            return None
        self.at = found.end()
        return found[0]

    def need(self, pattern):
        found = self.take(pattern)
        if found is None:
            raise LookupError
        return found

    def variable(self):
        name = self.need("[a-z]{1,3}(?![a-z])")
        if name in ("all", "and", "not", "or", "r"):
            raise LookupError
        return name

    def slope(self):
        return SLOPE_OF[self.need("[^,]*(?=, )")]

    def term(self, floors=3):
        items = []
        while True:
            if items:
                mark = self.take(r" \+ | - ")
                if mark is None:
                    return tuple(items), 0
            else:
                mark = self.take("-")
            sign = -1 if mark and "-" in mark else 1
            constant = self.take(r"(1000|[1-9][0-9]{0,2})(?![0-9*])")
            if constant:
                return tuple(items), sign * int(constant)
            if not items and not mark and self.take("0(?![0-9*])"):
                return (), 0
            size = self.take(r"[2-9]\*")
            factor = sign * int(size[0] if size else 1)
            if self.take(r"floor\("):
                items.append((factor, self.floor(floors)))
            else:
                items.append((factor, self.variable()))
            if len(items) > 4:
                raise LookupError

    def floor(self, floors):
        if floors == 0:
            raise LookupError
        slope = self.slope()
        self.need(", ")
        term = self.term(floors - 1)
        self.need(r"\)")
        return "floor", slope, term

    def saying(self):
        if self.take(r"\("):
            parts = [self.saying()]
            word = self.need(" and | or ")
            parts.append(self.saying())
            while len(parts) < 4 and self.take(word):
                parts.append(self.saying())
            self.need(r"\)")
            return word.strip(), *parts
        if self.take("not "):
            return "not", self.saying()
        word = self.take("(some|all) ")
        if word:
            name = self.variable()
            self.need(" ")
            return word.strip(), name, self.saying()
        if self.take(r"under\("):
            t = self.term()
            self.need(", ")
            slope = self.slope()
            self.need(", ")
            u = self.term()
            self.need(r"\)")
            return "under", t, slope, u
        if self.take(r"leaves\("):
            t = self.term()
            m, n = map(int, self.need(r", [2-9], [0-8]\)")[2:-1].split(", "))
            if n >= m:
                raise LookupError
            return "leaves", t, m, n
        name = self.take(r"(?!floor\(|some\(|under\(|leaves\()[a-z]{4,8}(?=\()")
        if name:
            self.need(r"\(")
            names = []
            while not self.take(r"\)"):
                if names:
                    self.need(", ")
                names.append(self.variable())
            if len(names) > 3:
                raise LookupError
            return "use", name, tuple(names)
        t = self.term()
        word = {" = ": "equal", " < ": "less"}[self.need(" [=<] ")]
        return word, t, self.term()

    def whole(self, reader):
        value = reader()
        if self.at != len(self.text):
            raise LookupError
        return value


def strict_term(text):
    """The term with a text; None if there is none."""
    reader = Strict(text)
    try:
        return reader.whole(reader.term)
    except LookupError:
        return None


def strict_saying(text):
    reader = Strict(text)
    try:
        saying = reader.whole(reader.saying)
    except LookupError:
        return None
    return saying if len(parts_with_around(saying)) <= 20 and first_misbound(saying) is None else None


def bent_text(random, text):
    """The text with a sign, or now and then several, put in, taken out or exchanged, or cut."""
    for _ in range(random.choice((1, 1, 1, 2))):
        at = random.randint(0, len(text))
        sign = random.choice(SIGNS + text)
        way = random.randrange(6)
        if way == 0:
            text = text[:at] + sign + text[at:]
        elif way == 1:
            text = text[:at] + text[at + 1:]
        elif way == 2:
            text = text[:at] + sign + text[at + 1:]
        elif way == 3:
            text = random.choice((text[:at], text[at:]))
        elif way == 4 and any(sign.isdigit() for sign in text):
            at = random.choice([place for place, sign in enumerate(text) if sign.isdigit()])
            text = text[:at] + random.choice("0123456789") + text[at + random.randint(0, 1):]
        else:
            text = text[:at] + text[at:].replace(*random.choice(CHANGES), 1)
    return text


CHANGES = (
    (" + ", " - "), (" - ", " + "), ("-", ""), ("*", ""), ("x", "y"), ("and", "or"), ("or", "and"), ("=", "<"),
    ("<", "="), ("some", "all"), ("all", "some"), (", ", ","), (" ", "  "), ("not ", ""), ("(", "(("), (")", "))"),
    ("r", "2r"), ("2r", "r"), ("/2", "/3"), ("/2", ""), ("(", ""), ("floor", "floo"), ("under", "leaves"), ("+", " + "),
)


class Case(unittest.TestCase):
    def refuse(self, read, text):
        self.assertIs(type(raised(read, text)), InvalidText, text)


class SlopeTextTest(unittest.TestCase):
    def test_whole_range(self):
        self.assertEqual(len(SLOPES), 19 * 7 * 4)
        self.assertEqual(len(SLOPE_OF), len(SLOPES))
        for slope in SLOPES:
            self.assertEqual(slope_text(slope), plain_slope(*slope))


class TermTextTest(Case):
    def test_drawn_terms(self):
        random = seeded("terms")
        for _ in range(1500):
            term = any_term(random, random.sample(VARIABLES, random.randint(0, 4)))
            text = term_text(term)
            self.assertEqual(text, plain_term(term))
            self.assertEqual(read_term(text), term)
            self.assertEqual(strict_term(text), term)

    def test_all_slopes(self):
        for slope in SLOPES:
            term = (((-3, ("floor", slope, (((1, "x"),), -1))),), 5)
            text = f"-3*floor({plain_slope(*slope)}, x - 1) + 5"
            self.assertEqual(term_text(term), text)
            self.assertEqual(read_term(text), term)

    def test_by_hand(self):
        golden = ("floor", (1, 1, 2), (((2, "x"),), -1))
        inside = ("floor", (0, -3, 4), (((1, golden),), 0))
        pairs = [
            (((), 0), "0"), (((), 7), "7"), (((), -1000), "-1000"), (X, "x"), ((((-1, "x"),), 0), "-x"),
            ((((2, "x"), (-3, "ab"), (1, "x"), (-1, "zzz")), 4), "2*x - 3*ab + x - zzz + 4"),
            ((((-9, "x"),), -5), "-9*x - 5"), ((((1, "x"), (1, "x")), 0), "x + x"),
            ((((1, golden),), 0), "floor((1+r)/2, 2*x - 1)"), ((((-1, golden),), 1), "-floor((1+r)/2, 2*x - 1) + 1"),
            ((((1, "y"), (-8, inside)), -1), "y - 8*floor(-3r/4, floor((1+r)/2, 2*x - 1)) - 1"),
            ((((1, ("floor", (0, 0, 3), ZERO)),), 0), "floor(0/3, 0)"),
            ((((1, ("floor", (2, 2, 2), ((), -3))),), 0), "floor((2+2r)/2, -3)"),
            ((((1, ("floor", (-9, -1, 1), X)),), 0), "floor(-9-r, x)"),
        ]
        for term, text in pairs:
            self.assertEqual(term_text(term=term), text)
            self.assertEqual(read_term(text=text), term)
            self.assertEqual(hash(read_term(text)), hash(term))

    def test_bent_texts(self):
        random = seeded("bent")
        read, refused = 0, 0
        for _ in range(6000):
            text = bent_text(random, plain_term(any_term(random, random.sample(VARIABLES, 3))))
            expected = strict_term(text)
            if expected is None:
                self.refuse(read_term, text)
                refused += 1
            else:
                self.assertEqual(read_term(text), expected)
                self.assertEqual(term_text(expected), text)
                read += 1
        self.assertGreater(min(read, refused), 500)

    def test_wrong_terms(self):
        for text in (
            "", " ", "x ", " x", "x +", "x + ", "x+1", "x  + 1", "x +1", "x + -1", "x - -1", "+x", "+1", "--x", "- x", "-0",
            "00", "01", "x + 0", "x - 0", "x + 01", "x + 1 + 2", "1 + x", "1 + 1", "0 + x", "1*x", "-1*x", "x + 1*y", "0*x",
            "10*x", "02*x", "2*3", "2*", "*x", "x*2", "2x", "2 * x", "2* x", "x*y", "(x)", "x + (y)", "1001", "-1001",
            "x + 1001", "9999", "10000", "1" * 2000, "x" * 2000, "abcd", "all", "and", "not", "or", "r", "2*r", "X", "x1",
            "x\n", "\nx", "x + y + z + a + b", "x + x + x + x + x", "x, y", "floor", "floor(", "floor()",
            "floor(x)", "floor(r, x", "floor(r,x)", "floor( r, x)", "floor(r , x)", "floor(r, x )", "floor (r, x)",
            "floor(r, )", "floor(, x)", "floor(r)", "floor(r, x, y)", "floor(r, x))", "Floor(r, x)", "floor(x, r)",
            "floor(r, floor(r, floor(r, floor(r, x))))", "floor(r, x)2", "1*floor(r, x)", "2floor(r, x)", "-",
            "floor(r, x) + 0", "floor(r, 1 + x)", "floor(r, x + 0)", "2*floor(r, +x)", "floor(r, x)*2", "\u0663", "x + \u00b2",
            "floor(r, x)(", "x%", "x + y %", "-floor", "x -", "x - y -", "9" * 5000, "-" * 2000, "x + " * 500,
            "floor(r, " * 222, "floor(r, " * 1000 + "x" + ")" * 1000, "2*" * 1000,
        ):
            self.refuse(read_term, text)
            self.refuse(read_saying, text)
            self.refuse(read_saying, f"{text} = 0")
            self.refuse(read_term, f"floor(r, {text})")

    def test_wrong_slopes(self):
        for text in (
            "", "+r", "1r", "-1r", "0r", "0+r", "0-r", "r+1", "1 + r", "1+ r", "1+1r", "1-1r", "1+0r", "1+-r", "1-+r", "-0",
            "+1", "01", "1+02r", "01+r", "(r)/2", "(1)/2", "(1+r)", "(1+r)/1", "r/1", "1/1", "1+r/2", "((1+r))/2", "(1+r/2",
            "1+r)/2", "(1+r)/5", "(1+r)/0", "r/0", "r/5", "4r", "-4r", "10", "-10", "10+r", "1+4r", "-10-4r", "r/02", "r/-2",
            "r/2/2", "r2", "2*r", "r*2", "rr", "2rr", "--r", "R", "x", "/2", "(", ")", "()/2", "(+r)/2", "(0+r)/2", "1+r+r",
            "1+1", "1+2", "r-r", "r+r", "1/2+r", "r/ 2", "r /2", "(1+r) /2", "1.5", "\u0661", "9" * 5000, "1" * 300 + "r", "-",
            "+", "(-r)/2", "[1+r]/2", "1 +r", "sqrt", "-(1+r)/2", "(1+r)/2)", ")1+r(/2",
        ):
            self.refuse(read_term, f"floor({text}, x)")
            self.refuse(read_saying, f"under(x, {text}, y)")

    def test_words(self):
        for name in VARIABLES:
            self.assertEqual(read_term(f"{name} - 2*{name}"), (((1, name), (-2, name)), 0))
        for name in NO_VARIABLES:
            if isinstance(name, str) and name:
                self.refuse(read_term, f"2*{name}")
                self.refuse(read_saying, f"some {name} 0 = 0")
                self.refuse(read_saying, f"even({name})")
                self.refuse(read_saying, f"even(x, {name})")


class SayingTextTest(Case):
    def test_drawn_sayings(self):
        random = seeded("sayings")
        words, short = set(), 0
        for _ in range(1500):
            saying = any_saying(random)
            text = saying_text(saying)
            self.assertEqual(text, plain_saying(saying))
            self.assertEqual(read_saying(text), saying)
            words |= {part[0] for part, _ in parts_with_around(saying)}
            short += len(text) <= 2000
            if len(text) <= 2000:
                self.assertEqual(strict_saying(text), saying)
        self.assertEqual(len(words), 10)
        self.assertGreater(short, 1000)

    def test_by_hand(self):
        pairs = [
            (("equal", X, Y), "x = y"), (("less", ZERO, (((-1, "x"),), 3)), "0 < -x + 3"),
            (("under", X, (1, 1, 2), Y), "under(x, (1+r)/2, y)"), (("leaves", X, 9, 8), "leaves(x, 9, 8)"),
            (("not", ("less", X, Y)), "not x < y"), (("use", "even", ()), "even()"), (("use", "twice", ("x",)), "twice(x)"),
            (("use", "abcdefgh", ("x", "y", "x")), "abcdefgh(x, y, x)"),
            (("and", ("equal", X, Y), ("use", "even", ("x",))), "(x = y and even(x))"),
            (("or",) + (("less", X, Y),) * 4, "(x < y or x < y or x < y or x < y)"),
            (("some", "x", ("all", "y", ("equal", X, Y))), "some x all y x = y"),
            (("not", ("and", ("not", ("less", X, Y)), ("or", ("equal", X, Y), ("use", "even", ())))),
             "not (not x < y and (x = y or even()))"),
            (("all", "any", ("some", "nor", ("use", "somehow", ("nor", "any")))), "all any some nor somehow(nor, any)"),
        ]
        for saying, text in pairs:
            self.assertEqual(saying_text(saying=saying), text)
            self.assertEqual(read_saying(text=text), saying)

    def test_examples(self):
        self.assertEqual(
            read_saying("floor(r/2, x + 1) = -2*y"),
            ("equal", (((1, ("floor", (0, 1, 2), (((1, "x"),), 1))),), 0), (((-2, "y"),), 0)),
        )
        text = "all x (x = 0 or floor((1+r)/2, 2*x - 1) < 4*x)"
        self.assertEqual(saying_text(read_saying(text)), text)

    def test_bent_texts(self):
        random = seeded("bent")
        read, refused = 0, 0
        for _ in range(6000):
            text = bent_text(random, plain_saying(any_saying(random, random.choice((3, 6, 20)))))
            expected = strict_saying(text)
            if expected is None:
                self.refuse(read_saying, text)
                refused += 1
            else:
                self.assertEqual(read_saying(text), expected)
                self.assertEqual(saying_text(expected), text)
                read += 1
        self.assertGreater(min(read, refused), 500)

    def test_wrong_sayings(self):
        for text in (
            "", " ", "x", "x =", "x = ", "= x", " = x", "x=y", "x= y", "x =y", "x  = y", "x =  y", " x = y", "x = y ", "x > y",
            "x == y", "x <= y", "x = y = z", "x < y < z", "(x = y)", "((x = y and x = y))", "x = y or y = x",
            "(x = y and x = y or x = y)", "(x = y or x = y and x = y)", "(x = y,x = y)", "(x = y and x = y", "x = y and x = y)",
            "( x = y and x = y)", "(x = y and x = y )", "(x = y  and x = y)", "(x = y and  x = y)", "(x = y and)", "(and x = y)",
            "(x = y and )", "()", "( and )", "(x = y and x = y and x = y and x = y and x = y)", "(x = yand x = y)", "not", "not ",
            "notx = y", "not  x = y", "not(x = y)", "not (x = y)", "not and", "Not x = y", "NOT x = y", "some x", "some x ",
            "some", "some  x x = y", "some x  x = y", "some xx = y", "some all x = y", "some r x = y", "some abcd x = y",
            "some X x = y", "some x, y x = y", "all x x", "allx x = y", "some x: x = y", "some x some x x = y",
            "some x all x x = y", "(x = y and some x x = y)", "(some x x = y and x = y)", "a + b + c = d", "x(y)", "abc(y)",
            "some(x)", "floor(x)", "under(x)", "leaves(x)", "abcdefghi(x)", "even(x,y)", "even (x)", "even( x)", "even(x )",
            "even(x, y, z, a)", "even(,)", "even(x,)", "even(x, )", "even(, x)", "even(2)", "even(x + 1)", "even(all)", "even(r)",
            "even(x", "evenx)", "even", "even)", "even()()", "Even(x)", "even1(x)", "even(x) = y", "under(x, r)",
            "under(x, r, y, z)", "under(x,r, y)", "under(x, r,y)", "under (x, r, y)", "under(x, y, r)", "under(x, x, y)",
            "under(x, r, y", "under(r, x, y)", "leaves(x, 2)", "leaves(x, 2, 2)", "leaves(x, 1, 0)", "leaves(x, 10, 0)",
            "leaves(x, 2, -1)", "leaves(x, 02, 0)", "leaves(x, 2, 00)", "leaves(x, 2, 01)", "leaves(x,2, 0)", "leaves(x, 2,0)",
            "leaves(x, 2, 0", "leaves(x, 2, y)", "leaves(x, y, 0)", "leaves(2, 0, x)", "leaves(x, 2, 0, 0)", "leaves (x, 2, 0)",
            "leaves(x, 2, " + "1" * 1900 + ")", "x = y\n", "\nx = y", "x = y\n\n", "x = 1*y", "x = y + 0", "x + 0 = y", "x = 01",
            "x = 1001", "x = 10*y", "x = floor(1+1r, y)", "x = floor((r)/2, y)", "not " * 20 + "x = y", "not " * 500,
            "not " * 499 + "x = y", "not " * 2000 + "x = y", "(" * 2000, "(" * 25 + "x = y", "some x " * 280, "all y " * 2000, "all x (" * 280, "not (" * 400,
            "x = floor(r, floor(r, floor(r, floor(r, y))))", "x = " + "floor(r, " * 220, "even(" + "x, " * 600 + "x)",
            "(" + "x = y and " * 190 + "x = y)", "some a some b some c some d a = b", "a = b%", "x = \u00e9", "True", "None",
        ):
            self.refuse(read_saying, text)
            self.refuse(read_saying, f"not {text}")
            self.refuse(read_saying, f"(0 = 0 and {text})")

    def test_one_kind_is_not_the_other(self):
        for text in ("x = y", "even(x)", "not x = y", "some x x = y", "(x = y or x = y)", "leaves(x, 2, 0)", "x < y"):
            self.refuse(read_term, text)
        for text in ("0", "x", "x + 1", "floor(r, x)", "-3"):
            self.refuse(read_saying, text)
        self.refuse(read_saying, "x = y and x = y")
        self.refuse(read_saying, "x = y or x = y")

    def test_as_deep_as_may_be(self):
        self.assertEqual(saying_text(read_saying("not " * 19 + "x = y")), "not " * 19 + "x = y")
        deep = "some a all b some c " + "not " * 16 + "a = b"
        self.assertEqual(saying_text(read_saying(deep)), deep)
        self.refuse(read_saying, f"not {deep}")
        text = "x = y"
        for _ in range(9):
            text = f"(0 = 0 or {text})"
        deep = f"not {text}"
        self.assertEqual(saying_text(read_saying(deep)), deep)
        self.refuse(read_saying, f"not {deep}")

    def test_names(self):
        for name in NO_NAMES:
            if isinstance(name, str):
                self.refuse(read_saying, f"{name}(x)")


if __name__ == "__main__":
    unittest.main()

"""Loose reading of terms and sayings from a place of a text on.

Each function returns what it read and the place behind it. It may take more than the texts of point 12, and things
beyond their bounds: who calls writes the result back and compares the texts.
"""

from rootfloor.errors import InvalidText
from rootfloor.kinds import is_letter, is_name
from rootfloor.sayings import MOST_FLOORS, MOST_PARTS

# Greater numbers are out of all bounds, and int would refuse very great ones.
MOST_FIGURES = 4


def saying_at(text, at, *, depth=1):
    """The saying that begins at a place."""
    # So many parts cannot stand within one another; a deeper text might be too deep to be read by recursion.
    if depth > MOST_PARTS:
        raise InvalidText()
    if text.startswith("(", at):
        return _joint_at(text, at + 1, depth)
    word, behind = _word_at(text, at)
    if word == "not":
        inner, behind = saying_at(text, _behind(text, behind, " "), depth=depth + 1)
        return (word, inner), behind
    if word in ("some", "all"):
        name, behind = _word_at(text, _behind(text, behind, " "))
        inner, behind = saying_at(text, _behind(text, behind, " "), depth=depth + 1)
        return (word, name, inner), behind
    if word == "under":
        return _under_at(text, behind)
    if word == "leaves":
        return _leaves_at(text, behind)
    if is_name(word):
        return _use_at(text, behind, word)
    return _comparison_at(text, at)


def _joint_at(text, at, depth):
    """The "and" or "or" whose first saying begins at a place."""
    inner, at = saying_at(text, at, depth=depth + 1)
    word = "and" if text.startswith(" and ", at) else "or"
    parts = [inner]
    while not text.startswith(")", at):
        inner, at = saying_at(text, _behind(text, at, f" {word} "), depth=depth + 1)
        parts.append(inner)
    return (word, *parts), at + 1


def _under_at(text, at):
    term, at = term_at(text, _behind(text, at, "("))
    slope, at = _slope_at(text, _behind(text, at, ", "))
    other, at = term_at(text, _behind(text, at, ", "))
    return ("under", term, slope, other), _behind(text, at, ")")


def _leaves_at(text, at):
    term, at = term_at(text, _behind(text, at, "("))
    divisor, at = _figures_at(text, _behind(text, at, ", "))
    rest, at = _figures_at(text, _behind(text, at, ", "))
    return ("leaves", term, divisor, rest), _behind(text, at, ")")


def _use_at(text, at, word):
    at = _behind(text, at, "(")
    names = []
    while not text.startswith(")", at):
        if names:
            at = _behind(text, at, ", ")
        name, at = _word_at(text, at)
        names.append(name)
    return ("use", word, tuple(names)), at + 1


def _comparison_at(text, at):
    term, at = term_at(text, at)
    word = "less" if text.startswith(" < ", at) else "equal"
    other, at = term_at(text, _behind(text, at, " < " if word == "less" else " = "))
    return (word, term, other), at


def term_at(text, at, *, floors=MOST_FLOORS):
    """The term that begins at a place, with floors at most so many deep."""
    items = []
    sign = 1
    if text.startswith("-", at):
        sign, at = -1, at + 1
    while True:
        size, thing, at = _piece_at(text, at, floors)
        if thing is None:
            return (tuple(items), sign * size), at
        items.append((sign * size, thing))
        if not text.startswith(" + ", at) and not text.startswith(" - ", at):
            return (tuple(items), 0), at
        sign = 1 if text.startswith(" + ", at) else -1
        at += 3


def _piece_at(text, at, floors):
    """The size, the thing and the place behind an item, or behind a constant, which has None for the thing."""
    size = 1
    if _is_figure(text[at:at + 1]):
        size, at = _figures_at(text, at)
        if not text.startswith("*", at):
            return size, None, at
        at += 1
    word, at = _word_at(text, at)
    if word != "floor":
        return size, word, at
    if floors == 0:
        raise InvalidText()
    slope, at = _slope_at(text, _behind(text, at, "("))
    term, at = term_at(text, _behind(text, at, ", "), floors=floors - 1)
    return size, (word, slope, term), _behind(text, at, ")")


def _slope_at(text, at):
    """The slope that begins at a place and ends before a comma."""
    end = text.find(",", at)
    if end < 0:
        raise InvalidText()
    above, stroke, below = text[at:end].partition("/")
    above = above.strip("()")
    k = _whole(below) if stroke else 1
    if not above.endswith("r"):
        return (_whole(above), 0, k), end
    # The multiple of r begins with the last sign, if one stands behind something else.
    cut = max(above.rfind("+"), above.rfind("-"), 0)
    i = _whole(above[:cut]) if cut > 0 else 0
    return (i, _multiple(above[cut:-1]), k), end


def _multiple(text):
    """The integer before an r, which may be a sign alone or nothing."""
    if text in ("", "+"):
        return 1
    if text == "-":
        return -1
    return _whole(text)


def _whole(text):
    """The integer of a whole text, perhaps with a sign."""
    start = 1 if text.startswith("+") or text.startswith("-") else 0
    size, behind = _figures_at(text, start)
    if behind != len(text):
        raise InvalidText()
    return -size if text.startswith("-") else size


def _figures_at(text, at):
    end = at
    while _is_figure(text[end:end + 1]):
        end += 1
    if not 1 <= end - at <= MOST_FIGURES:
        raise InvalidText()
    return int(text[at:end]), end


def _is_figure(sign):
    return "0" <= sign <= "9"


def _word_at(text, at):
    """The lowercase letters, perhaps none, from a place on."""
    end = at
    while is_letter(text[end:end + 1]):
        end += 1
    return text[at:end], end


def _behind(text, at, mark):
    """The place behind a mark that must stand at a place."""
    if not text.startswith(mark, at):
        raise InvalidText()
    return at + len(mark)

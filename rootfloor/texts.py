"""Texts of terms and sayings, and the terms and sayings with a text."""

from rootfloor.errors import InvalidText
from rootfloor.reading import saying_at, term_at
from rootfloor.sayings import is_saying, is_term
from rootfloor.surds import slope_text


def term_text(term):
    """The text of a term."""
    items, constant = term
    pieces = [(factor, _item_text(abs(factor), thing)) for factor, thing in items]
    if constant != 0 or not items:
        pieces.append((constant, str(abs(constant))))
    texts = []
    for at, (factor, text) in enumerate(pieces):
        if at == 0:
            texts.append(f"-{text}" if factor < 0 else text)
        else:
            texts.append(f" - {text}" if factor < 0 else f" + {text}")
    return "".join(texts)


def _item_text(size, thing):
    text = thing if isinstance(thing, str) else f"floor({slope_text(thing[1])}, {term_text(thing[2])})"
    return text if size == 1 else f"{size}*{text}"


def saying_text(saying):
    """The text of a saying."""
    word = saying[0]
    if word in ("and", "or"):
        texts = [saying_text(part) for part in saying[1:]]
        inner = " and ".join(texts) if word == "and" else " or ".join(texts)
        return f"({inner})"
    if word == "not":
        return f"not {saying_text(saying[1])}"
    if word in ("some", "all"):
        return f"{word} {saying[1]} {saying_text(saying[2])}"
    if word == "use":
        names = ", ".join(saying[2])
        return f"{saying[1]}({names})"
    return _comparison_text(saying)


def _comparison_text(saying):
    word = saying[0]
    text = term_text(saying[1])
    if word == "equal":
        return f"{text} = {term_text(saying[2])}"
    if word == "less":
        return f"{text} < {term_text(saying[2])}"
    if word == "under":
        return f"under({text}, {slope_text(saying[2])}, {term_text(saying[3])})"
    return f"leaves({text}, {saying[2]}, {saying[3]})"


def read_term(text):
    """The term with a text."""
    term, behind = term_at(text, 0)
    # What was read loosely counts only if it is written back to the same text.
    if behind != len(text) or not is_term(term) or term_text(term) != text:
        raise InvalidText()
    return term


def read_saying(text):
    """The saying with a text."""
    saying, behind = saying_at(text, 0)
    if behind != len(text) or not is_saying(saying) or saying_text(saying) != text:
        raise InvalidText()
    return saying

"""Terms and sayings: their forms, parts, variables and names, and the values of terms."""

from rootfloor.errors import InvalidRow, InvalidSaying, UnknownName, WrongCount
from rootfloor.kinds import is_between, is_name, is_number, is_variable
from rootfloor.surds import floor_of, is_slope

MOST_FLOORS = 3
MOST_ITEMS = 4
MOST_PARTS = 20
MOST_AROUND = 3


def is_term(value):
    """Whether any value is a term."""
    return _is_term_with(value, MOST_FLOORS)


def _is_term_with(value, floors):
    """Whether any value is a term with floors that stand at most so many deep within one another."""
    if not isinstance(value, tuple) or len(value) != 2:
        return False
    items, constant = value
    if not isinstance(items, tuple) or len(items) > MOST_ITEMS or not is_between(constant, -1000, 1000):
        return False
    return all([_is_item(item, floors) for item in items])


def _is_item(value, floors):
    if not isinstance(value, tuple) or len(value) != 2:
        return False
    factor, thing = value
    return is_between(factor, -9, 9) and factor != 0 and (is_variable(thing) or _is_floor(thing, floors))


def _is_floor(value, floors):
    if not isinstance(value, tuple) or len(value) != 3 or floors == 0:
        return False
    word, slope, term = value
    return word == "floor" and is_slope(slope) and _is_term_with(term, floors - 1)


def is_saying(value):
    """Whether any value is a saying."""
    return _first_wrong(value) is None


def check_saying(value):
    """Raises InvalidSaying with the number of the first part that is not as it must be."""
    number = _first_wrong(value)
    if number is not None:
        raise InvalidSaying(number)


def _first_wrong(value):
    """The number of the first part that is not as it must be; None if there is none."""
    number = _first_misformed(value)
    if number is None:
        number = _first_misbound(value)
    return number


def _first_misformed(value):
    """The number of the first part that has another form or is one too many; None if there is none."""
    # The parts wait on a stack: an unending tree of parts is left at the first one too many.
    waiting = [value]
    number = 0
    while waiting:
        part = waiting.pop()
        if number == MOST_PARTS or not _has_form(part):
            return number
        waiting.extend(_inner(part)[::-1])
        number += 1
    return None


def _first_misbound(saying):
    """The number of the first part that binds what it may not, or has too many variables around; None if none does."""
    free = free_variables(saying)
    waiting = [(saying, free)]
    number = 0
    while waiting:
        part, around = waiting.pop()
        if len(around) > MOST_AROUND:
            return number
        if part[0] in ("some", "all"):
            if part[1] in around:
                return number
            around = [*around, part[1]]
        waiting.extend([(inner, around) for inner in _inner(part)[::-1]])
        number += 1
    return None


def _has_form(value):
    """Whether any value has the form of a part, whatever stands at the places of the sayings in it."""
    if not isinstance(value, tuple) or not value or not isinstance(value[0], str):
        return False
    word, *rest = value
    if word in ("and", "or"):
        return 2 <= len(rest) <= 4
    if word == "not":
        return len(rest) == 1
    if word in ("some", "all"):
        return len(rest) == 2 and is_variable(rest[0])
    if word == "use":
        return len(rest) == 2 and is_name(rest[0]) and _are_variables(rest[1])
    return _compares(word, rest)


def _are_variables(value):
    return isinstance(value, tuple) and len(value) <= 3 and all([is_variable(name) for name in value])


def _compares(word, rest):
    """Whether a word and a list of values are those of a part that compares terms."""
    if word in ("equal", "less"):
        return len(rest) == 2 and is_term(rest[0]) and is_term(rest[1])
    if word == "under":
        return len(rest) == 3 and is_term(rest[0]) and is_slope(rest[1]) and is_term(rest[2])
    if word == "leaves":
        return len(rest) == 3 and is_term(rest[0]) and is_between(rest[1], 2, 9) and is_between(rest[2], 0, rest[1] - 1)
    return False


def _inner(part):
    """The tuple of the sayings directly in a part."""
    if part[0] in ("not", "and", "or"):
        return part[1:]
    if part[0] in ("some", "all"):
        return part[2:]
    return ()


def parts_of(saying):
    """The parts of a saying, in order."""
    yield saying
    for inner in _inner(saying):
        yield from parts_of(inner)


def free_variables(saying):
    """The ascending list of the free variables of a saying."""
    names = [name for inner in _inner(saying) for name in free_variables(inner)]
    if saying[0] in ("some", "all"):
        names = [name for name in names if name != saying[1]]
    if saying[0] == "use":
        names = list(saying[2])
    for term in terms_of(saying):
        names = [*names, *term_variables(term)]
    return sorted(set(names))


def terms_of(part):
    """The list of the terms that stand directly in a part."""
    if part[0] in ("equal", "less"):
        return [part[1], part[2]]
    if part[0] == "under":
        return [part[1], part[3]]
    if part[0] == "leaves":
        return [part[1]]
    return []


def used_names(saying):
    """The list of the names of uses, in the order of the parts, each name once."""
    names = {part[1]: True for part in parts_of(saying) if part[0] == "use"}
    return list(names)


def with_names(saying, names):
    """The saying with other names of uses, by a dict from the old ones."""
    if saying[0] == "use":
        return "use", names.get(saying[1], saying[1]), saying[2]
    inner = _inner(saying)
    return *saying[:len(saying) - len(inner)], *[with_names(part, names) for part in inner]


def check_uses(saying, counts):
    """Raises the error of the first use whose name is not in a dict, or that has not the number of variables there."""
    for part in parts_of(saying):
        if part[0] == "use":
            if part[1] not in counts:
                raise UnknownName(part[1])
            if len(part[2]) != counts[part[1]]:
                raise WrongCount(part[1])


def term_variables(term):
    """The ascending list of the variables of a term, also of those in its floors."""
    names = []
    for _, thing in term[0]:
        names = [*names, thing] if isinstance(thing, str) else [*names, *term_variables(thing[2])]
    return sorted(set(names))


def term_value(field, term, values):
    """The value of a term for a row."""
    for name in term_variables(term):
        if not is_number(values.get(name)):
            raise InvalidRow(name)
    return _value(field.root, term, values)


def _value(root, term, values):
    items, constant = term
    return constant + sum([factor * _thing_value(root, thing, values) for factor, thing in items])


def _thing_value(root, thing, values):
    if isinstance(thing, str):
        return values[thing]
    return floor_of(root, thing[1], _value(root, thing[2], values))

"""Definitions: lists of sayings with names and variables, and the commands that change them.

A definition is a tuple (name, variables, saying). Lists of definitions are never changed, but replaced.
"""

from rootfloor.errors import (
    CapacityExceeded, DuplicateName, FreeVariable, InUse, InvalidCommand, InvalidName, InvalidVariables, UnknownName,
)
from rootfloor.kinds import is_name, is_variable
from rootfloor.sayings import check_saying, check_uses, free_variables, used_names, with_names
from rootfloor.texts import saying_text

# The first elements of commands, and the numbers of their elements.
FORMS = (("define", 4), ("change", 3), ("rename", 3), ("drop", 2))


def check_command(command):
    """Raises InvalidCommand unless a value has the form of a command."""
    if isinstance(command, (tuple, list)) and len(command) > 0:
        if not isinstance(command, tuple) or (command[0], len(command)) not in FORMS:
            raise InvalidCommand(command[0])
    else:
        raise InvalidCommand(None)


def applied(definitions, command, limit):
    """The list of definitions behind a command."""
    if command[0] == "define":
        return _defined(definitions, command, limit)
    if command[0] == "change":
        return _changed(definitions, command)
    if command[0] == "rename":
        return _renamed(definitions, command)
    return _dropped(definitions, command)


def place_of(definitions, name):
    """The index of the definition with a name; raises UnknownName if there is none."""
    for place, definition in enumerate(definitions):
        if definition[0] == name:
            return place
    raise UnknownName(name)


def has_name(definitions, name):
    """Whether there is a definition with a name."""
    return any([definition[0] == name for definition in definitions])


def users_of(definitions, name):
    """The list of the names whose sayings use a name, in order."""
    return [user for user, variables, saying in definitions if name in used_names(saying)]


def meanings(definitions, numbers):
    """For each name the number of its meaning; numbers is a dict of the meanings that have a number already."""
    found = {}
    for name, variables, saying in definitions:
        # A use of a meaning is written with its number, so it is unlike the saying that it stands for.
        text = saying_text(with_names(saying, {used: str(found[used]) for used in used_names(saying)}))
        found[name] = numbers.setdefault((variables, text), len(numbers))
    return found


def _defined(definitions, command, limit):
    _, name, variables, saying = command
    if not is_name(name):
        raise InvalidName(name)
    if has_name(definitions, name):
        raise DuplicateName(name)
    if len(definitions) >= limit:
        raise CapacityExceeded(limit)
    if not _are_variables(variables):
        raise InvalidVariables(name)
    _check_saying(definitions, variables, saying)
    return [*definitions, (name, variables, saying)]


def _changed(definitions, command):
    _, name, saying = command
    place = place_of(definitions, name)
    variables = definitions[place][1]
    _check_saying(definitions[:place], variables, saying)
    return [*definitions[:place], (name, variables, saying), *definitions[place + 1:]]


def _renamed(definitions, command):
    _, name, fresh = command
    place = place_of(definitions, name)
    if not is_name(fresh):
        raise InvalidName(fresh)
    if has_name(definitions, fresh):
        raise DuplicateName(fresh)
    names = {name: fresh}
    found = [(old, variables, with_names(saying, names)) for old, variables, saying in definitions]
    return [*found[:place], (fresh, found[place][1], found[place][2]), *found[place + 1:]]


def _dropped(definitions, command):
    _, name = command
    place = place_of(definitions, name)
    users = users_of(definitions, name)
    if users:
        raise InUse(users[0])
    return [*definitions[:place], *definitions[place + 1:]]


def _are_variables(value):
    if not isinstance(value, tuple) or len(value) > 3 or not all([is_variable(name) for name in value]):
        return False
    return len(set(value)) == len(value)


def _check_saying(before, variables, saying):
    """Raises the error of a saying for these variables that may use the definitions before it."""
    check_saying(saying)
    check_uses(saying, {definition[0]: len(definition[1]) for definition in before})
    for name in free_variables(saying):
        if name not in variables:
            raise FreeVariable(name)

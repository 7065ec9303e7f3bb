"""Shadows: what is left of a machine when the digits of one of its names may be any ones."""

from rootfloor.rooms import edges_into, sources
from rootfloor.tables import hopeless, reread


def shadow_lines(rows, answers, picks):
    """The list of the lines (rooms, goals, rank) of the shadow of a least table.

    For each digit of the name, picks has the list of the numbers of the letters for the letters of the other names.
    """
    lost = hopeless(rows, answers)
    steps = _steps(rows, picks, lost)
    ranks = ranks_of(reread(rows, [letters[0] for letters in picks]), answers)
    first = () if lost == 0 else (0,)
    numbers = {first: 0}
    waiting = [first]
    lines = []
    while len(lines) < len(waiting):
        rooms = waiting[len(lines)]
        goals = []
        for letter in range(len(picks[0])):
            reached = tuple(sorted({goal for room in rooms for goal in steps[room][letter]}))
            number = numbers.setdefault(reached, len(waiting))
            if number == len(waiting):
                waiting.append(reached)
            goals.append(number)
        rank = min([ranks[room] for room in rooms if ranks[room] is not None], default=None)
        lines.append((rooms, tuple(goals), rank))
    return lines


def _steps(rows, picks, lost):
    """For each room, and each letter of the other names, the list of the goals that are not lost."""
    return [
        [sorted({row[pick] for pick in letters if row[pick] != lost}) for letters in zip(*picks)]
        for row in rows
    ]


def ranks_of(rows, answers):
    """For each room the least number of letters that lead to a room with the answer True; None if none lead there."""
    edges = edges_into(rows)
    ranks = [0 if answer else None for answer in answers]
    waiting = [room for room, answer in enumerate(answers) if answer]
    at = 0
    while at < len(waiting):
        goal = waiting[at]
        for room in sources(edges, goal):
            if ranks[room] is None:
                ranks[room] = ranks[goal] + 1
                waiting.append(room)
        at += 1
    return ranks

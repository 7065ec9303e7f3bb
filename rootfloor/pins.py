"""Pins: what is left of a machine when the digits of some of its names are given ones."""


def pinned(rows, answers, picks, shifts):
    """The rows and answers of a table, not the least one, for the letters of the names without given digits.

    For each of these letters picks has the number of the letter with zeros for the given names; shifts has, for each
    place, by how much the given digits move this number.
    """
    ends = _ends(rows, answers, shifts)
    numbers = {(0, 0): 0}
    stands = [(0, 0)]
    found = []
    while len(found) < len(stands):
        place, room = stands[len(found)]
        shift = shifts[place] if place < len(shifts) else 0
        after = min(place + 1, len(shifts))
        goals = []
        for pick in picks:
            stand = (after, rows[room][pick + shift])
            number = numbers.setdefault(stand, len(stands))
            if number == len(stands):
                stands.append(stand)
            goals.append(number)
        found.append(goals)
    return found, [ends[place][room] for place, room in stands]


def _ends(rows, answers, shifts):
    """For each place, and behind the last one, the answers behind all given digits with zeros for the other names."""
    ends = [answers]
    for shift in reversed(shifts):
        behind = ends[-1]
        ends.append([behind[row[shift]] for row in rows])
    return ends[::-1]

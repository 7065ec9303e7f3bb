"""Tables: the rows of goals and the answers of machines, and the least table that answers like a given one.

Operators run what stands here and may change only what they made themselves, so no list within a list is filled.
"""

from rootfloor.letters import letters_of

# The pairs of answers to which two tables together answer True.
BOTH = ((True, True),)
EITHER = ((True, True), (True, False), (False, True))
ONE_ALONE = ((True, False),)


def free_table(period, many):
    """The rows and answers of a table, not the least one, that is true of all rows of so many names."""
    letters = letters_of(max(period) + 1, many)
    # A 1 says that the digit below was 0. All begin with 0: the place 0 bounds its digit as one above 2 does.
    marks = letters_of(2, many)
    numbers = {mark: number for number, mark in enumerate(marks)}
    lost = len(period) * len(marks)
    rows = []
    for rest, part in enumerate(period):
        first = (rest + 1) % len(period) * len(marks)
        for mark in marks:
            rows.append([first + numbers[_marked(letter)] if _fits(letter, part, mark) else lost for letter in letters])
    rows.append([lost for _ in letters])
    return rows, [room != lost for room in range(len(rows))]


def _marked(letter):
    return tuple([1 if digit == 0 else 0 for digit in letter])


def _fits(letter, part, mark):
    return all([digit < part + free for digit, free in zip(letter, mark)])


def reread(rows, picks):
    """The rows for other letters, each of which is read as the old letter with the picked number."""
    return [[row[pick] for pick in picks] for row in rows]


def hopeless(rows, answers):
    """The room of a least table from which no room with the answer True is reached; -1 if there is none."""
    for room, row in enumerate(rows):
        if not answers[room] and all([goal == room for goal in row]):
            return room
    return -1


def joined(rows, answers, other_rows, other_answers, wanted):
    """The rows and answers of the table that reads two least ones with the same letters side by side."""
    # Where the answer can no longer become True, the room of the other table does not matter.
    lost = hopeless(rows, answers) if all([want[0] for want in wanted]) else -1
    other_lost = hopeless(other_rows, other_answers) if all([want[1] for want in wanted]) else -1
    nowhere = (max(0, lost), max(0, other_lost))
    numbers = {(0, 0): 0}
    pairs = [(0, 0)]
    found = []
    while len(found) < len(pairs):
        one, other = pairs[len(found)]
        goals = []
        for pair in zip(rows[one], other_rows[other]):
            if pair[0] == lost or pair[1] == other_lost:
                pair = nowhere
            number = numbers.setdefault(pair, len(pairs))
            if number == len(pairs):
                pairs.append(pair)
            goals.append(number)
        found.append(goals)
    return found, [(answers[one], other_answers[other]) in wanted for one, other in pairs]

"""The least table of a machine: which rooms are one, and how the rooms are numbered.

Operators run what stands here and may change only what they made themselves, so no list within a list is filled.
"""


def least_table(rows, answers):
    """The rows and answers of the least table with the same answers, its rooms numbered as they are reached."""
    blocks = blocks_of(rows, answers)
    numbers = {blocks[0]: 0}
    rooms = [0]
    found = []
    while len(found) < len(rooms):
        goals = []
        for goal in rows[rooms[len(found)]]:
            number = numbers.setdefault(blocks[goal], len(rooms))
            if number == len(rooms):
                rooms.append(goal)
            goals.append(number)
        found.append(goals)
    return found, [answers[room] for room in rooms]


def blocks_of(rows, answers):
    """For each room the number of its block; rooms of one block give the same answers to all further letters."""
    blocks = [1 if answer else 0 for answer in answers]
    many = 2
    edges = edges_into(rows)
    doubtful = list(range(len(rows)))
    while doubtful:
        moves = _moves(rows, blocks, doubtful, many)
        for room, block in moves:
            blocks[room] = block
            many = max(many, block + 1)
        # Only a room with a goal that has moved can have become unlike the others of its block.
        doubtful = sorted({source for room, block in moves for source in sources(edges, room)})
    return blocks


def _moves(rows, blocks, doubtful, many):
    """The pairs of a room and the block, numbered from many on, into which it moves, away from its old block."""
    kinds = _kinds(rows, blocks, doubtful)
    sizes = {}
    for room in kinds:
        sizes[kinds[room]] = sizes.get(kinds[room], 0) + 1
    # The greatest part of a block stays, so that a room moves seldom.
    stays = {}
    for room in kinds:
        best = stays.setdefault(blocks[room], kinds[room])
        if sizes[kinds[room]] > sizes[best]:
            stays[blocks[room]] = kinds[room]
    fresh = {}
    moves = []
    for room in kinds:
        if kinds[room] != stays[blocks[room]]:
            moves.append((room, fresh.setdefault(kinds[room], many + len(fresh))))
    return moves


def _kinds(rows, blocks, doubtful):
    """For each room of a block with a doubtful room a number; rooms of one block and with like goals have the same."""
    numbers = {}
    kinds = {}
    for room in doubtful:
        kinds[room] = numbers.setdefault(_look(rows, blocks, room), len(numbers))
    split = {blocks[room]: True for room in doubtful}
    # The rooms of a block that are not doubtful all have like goals, so one look is enough for them.
    steady = {}
    for room, block in enumerate(blocks):
        if block in split and room not in kinds:
            if block not in steady:
                steady[block] = numbers.setdefault(_look(rows, blocks, room), len(numbers))
            kinds[room] = steady[block]
    return kinds


def _look(rows, blocks, room):
    return blocks[room], tuple([blocks[goal] for goal in rows[room]])


def edges_into(rows):
    """What sources needs to find the rooms that lead to a room."""
    # Chained edges, instead of a list of sources for each room: last has the newest edge into each room, or -1.
    last = [-1 for _ in rows]
    chain = []
    for room, row in enumerate(rows):
        for goal in sorted(set(row)):
            chain.append((room, last[goal]))
            last[goal] = len(chain) - 1
    return last, chain


def sources(edges, room):
    """The list of the rooms that lead to a room."""
    last, chain = edges
    found = []
    edge = last[room]
    while edge >= 0:
        source, edge = chain[edge]
        found.append(source)
    return found

"""Points 9 and 16 below the machines: least tables, tables read side by side, and the lines of shadows."""

import unittest
from itertools import product

from helpers import PERIODS, ROOTS, all_letters, equals, less, same_answers, seeded
from rootfloor.rooms import blocks_of, least_table
from rootfloor.shadows import ranks_of, shadow_lines
from rootfloor.tables import BOTH, EITHER, ONE_ALONE, hopeless, joined


def any_table(random, rooms, letters, alike):
    """A table of any rows; the more alike, the more rooms answer like others."""
    rows = [[random.randrange(rooms) for _ in range(letters)] for _ in range(rooms)]
    answers = [random.random() < 0.4 for _ in range(rooms)]
    for room in range(1, rooms):
        if random.random() < alike:
            other = random.randrange(room)
            rows[room], answers[room] = list(rows[other]), answers[other]
    return rows, answers


def reached_in_order(rows):
    rooms = [0]
    for room in rooms:
        rooms += [goal for goal in dict.fromkeys(rows[room]) if goal not in rooms]
    return rooms


class LeastTest(unittest.TestCase):
    def test_drawn_tables(self):
        random = seeded("tables")
        for _ in range(400):
            rows, answers = any_table(random, random.randint(1, 30), random.randint(1, 4), random.random())
            kept = [list(row) for row in rows], list(answers)
            found, told = least_table(rows, answers)
            self.assertEqual((rows, answers), kept)
            rooms = reached_in_order(rows)
            classes = same_answers(rows, answers)
            firsts = list(dict.fromkeys(classes[room] for room in rooms))
            # The rooms of the least table are the classes, in the order in which they are reached.
            stands = [next(room for room in rooms if classes[room] == one) for one in firsts]
            self.assertEqual(found, [[firsts.index(classes[goal]) for goal in rows[room]] for room in stands])
            self.assertEqual(told, [answers[room] for room in stands])
            self.assertEqual(least_table(found, told), (found, told))

    def test_numbering_does_not_matter(self):
        random = seeded("numbering")
        for _ in range(100):
            rows, answers = any_table(random, 25, 2, 0.5)
            order = [0, *random.sample(range(1, 25), 24)]
            moved = [None] * 25
            for room in range(25):
                moved[order[room]] = [order[goal] for goal in rows[room]]
            told = [answers[order.index(room)] for room in range(25)]
            self.assertEqual(least_table(moved, told), least_table(rows, answers))

    def test_blocks(self):
        random = seeded("blocks")
        for _ in range(200):
            rows, answers = any_table(random, random.randint(1, 40), 2, 0.6)
            pairs = set(zip(blocks_of(rows, answers), same_answers(rows, answers)))
            self.assertEqual(len(pairs), len({block for block, _ in pairs}))
            self.assertEqual(len(pairs), len({one for _, one in pairs}))

    def test_long_chain(self):
        rows = [[min(room + 1, 999)] for room in range(1000)]
        answers = [room == 998 for room in range(1000)]
        self.assertEqual(least_table(rows, answers), (rows, answers))


class JoinedTest(unittest.TestCase):
    def test_answers_to_all_short_words(self):
        random = seeded("joined")
        for _ in range(120):
            one = least_table(*any_table(random, random.randint(1, 6), 2, 0.3))
            other = least_table(*any_table(random, random.randint(1, 6), 2, 0.3))
            for wanted in (BOTH, EITHER, ONE_ALONE):
                rows, answers = joined(*one, *other, wanted)
                for word in product(range(2), repeat=7):
                    rooms = [0, 0, 0]
                    for letter in word:
                        rooms = [table[room][letter] for table, room in zip((one[0], other[0], rows), rooms)]
                    pair = one[1][rooms[0]], other[1][rooms[1]]
                    self.assertIs(answers[rooms[2]], pair in wanted)

    def test_hopeless(self):
        self.assertEqual(hopeless([[0, 0]], [False]), 0)
        self.assertEqual(hopeless([[0, 0]], [True]), -1)
        self.assertEqual(hopeless([[1, 1], [0, 2], [2, 2]], [False, True, False]), 2)
        self.assertEqual(hopeless([[1, 0], [1, 1]], [False, True]), -1)


class ShadowTest(unittest.TestCase):
    def test_ranks(self):
        random = seeded("ranks")
        for _ in range(150):
            rows, answers = any_table(random, random.randint(1, 15), random.randint(1, 3), 0.2)
            ranks = ranks_of(rows, answers)
            for room, rank in enumerate(ranks):
                rooms, many = {room}, 0
                while many <= 20 and not any(answers[one] for one in rooms):
                    rooms = {goal for one in rooms for goal in rows[one]}
                    many += 1
                self.assertEqual(rank, many if many <= 20 else None)

    def test_lines(self):
        for root in ROOTS:
            for machine in (equals(root, x=1, y=-2), less(root, "x", "y"), equals(root, -9, x=1), ~equals(root, x=1, y=-1)):
                self.check_lines(machine, "x")

    def check_lines(self, machine, name):
        """Each line of the shadow against the words of point 16."""
        root, names, rows, answers = machine.field.root, machine.names(), machine.rows(), machine.answers()
        letters, at = all_letters(root, len(names)), names.index(name)
        others = all_letters(root, len(names) - 1)
        rest = [letter[:at] + letter[at + 1:] for letter in letters]
        digits = range(max(PERIODS[root]) + 1)
        picks = [[letters.index((*other[:at], digit, *other[at:])) for other in others] for digit in digits]
        lines = shadow_lines(rows, answers, picks)
        lost = hopeless(rows, answers)
        sets = [line[0] for line in lines]
        self.assertEqual(sets[0], (0,) if lost != 0 else ())
        self.assertEqual(len(set(sets)), len(sets))
        self.assertEqual(reached_in_order([line[1] for line in lines]), list(range(len(lines))))
        zeros = [number for number, letter in enumerate(rest) if not any(letter)]
        ranks = ranks_of([[row[number] for number in zeros] for row in rows], answers)
        for rooms, goals, rank in lines:
            for other, goal in zip(others, goals):
                reached = {rows[room][n] for room in rooms for n, letter in enumerate(rest) if letter == other}
                self.assertEqual(sets[goal], tuple(sorted(reached - {lost})))
            known = [ranks[room] for room in rooms if ranks[room] is not None]
            self.assertEqual(rank, min(known, default=None))


if __name__ == "__main__":
    unittest.main()

"""What several test files share: roots, wrong values, checks by integers alone, and things that are drawn or built."""

from functools import lru_cache
from itertools import count, product
from math import isqrt
from random import Random

from rootfloor.carrying import carried
from rootfloor.fields import Field
from rootfloor.machines import Machine

ROOTS = (2, 3, 5, 6, 13)
PERIODS = {2: (2,), 3: (1, 2), 5: (1,), 6: (2, 4), 13: (3,)}
BASES = {2: (-1, 1, 1), 3: (-1, 1, 1), 5: (-1, 1, 2), 6: (-2, 1, 1), 13: (-3, 1, 2)}

# Values of other kinds than integers, which no check of an integer may let through.
NO_INTEGERS = (
    True, False, None, "", "5", "r", 5.0, 1.0, 0.0, 1.5, (), (5,), (1, 1, 2), [], [5], {}, {5: 5}, set(), b"5",
    object(), ("equal", ((), 0), ((), 0)),
)
GREATEST = 10 ** 40 - 1
NO_NUMBERS = (*NO_INTEGERS, -1, -2, -GREATEST, -10 ** 40, 10 ** 40, 10 ** 40 + 7, 10 ** 5000)
NO_ROOTS = (*NO_INTEGERS, -13, -5, -2, -1, 0, 1, 4, 7, 8, 9, 10, 11, 12, 14, 25, 10 ** 40, -10 ** 5000)


def raised(call, *items, **named):
    """The error that a call raises; None if it raises none."""
    try:
        call(*items, **named)
    except Exception as error:
        return error
    return None


def any_integer(random, figures):
    """An integer of either sign with at most so many figures; short ones are as likely as long ones."""
    most = 10 ** random.randint(1, figures)
    return random.randint(1 - most, most - 1)


def any_divisor(random, figures):
    """Such an integer, but not 0."""
    return any_integer(random, figures) or random.choice((-1, 1))


def sign_of(number):
    return (number > 0) - (number < 0)


def square(number):
    """The square with the sign of the number, which keeps the order of all numbers."""
    return number * abs(number)


def is_at_most(whole, j, root):
    """Whether an integer is not greater than j times the square root."""
    return square(whole) <= square(j) * root


def is_floor(found, i, j, k, root):
    """Whether an integer is the floor of (i + j r) / k; k may be negative, but not 0."""
    if k < 0:
        i, j, k = -i, -j, -k
    return is_at_most(k * found - i, j, root) and not is_at_most(k * (found + 1) - i, j, root)


def step_list(root, many):
    """q(0), q(1), .. by the recurrence, written down as in point 5."""
    period = PERIODS[root]
    steps = [1, period[0]]
    while len(steps) < many:
        part = period[(len(steps) - 1) % len(period)]
        steps.append(part * steps[-1] + steps[-2])
    return steps[:many]


def count_list(root, many):
    """p(0), p(1), .. by the recurrence, written down as in point 6."""
    period = PERIODS[root]
    counts = [0, 1]
    while len(counts) < many:
        part = period[(len(counts) - 1) % len(period)]
        counts.append(part * counts[-1] + counts[-2])
    return counts[:many]


def first_wrong(root, digits):
    """The first index at which a list of integers breaks point 5; None if there is none."""
    period = PERIODS[root]
    for place, digit in enumerate(digits):
        most = period[place % len(period)]
        if digit < 0 or digit > most:
            return place
        if place == 0 and digit == most:
            return place
        if place > 0 and digit == most and digits[place - 1] != 0:
            return place
    return None


def any_digits(random, root, many):
    """A list of digits that can stand, often with the greatest ones."""
    period = PERIODS[root]
    digits = []
    for place in range(many):
        most = period[place % len(period)]
        if place == 0 or digits[-1] != 0:
            most -= 1
        digits.append(random.choice((0, most, random.randint(0, most))))
    return digits


def seeded(word):
    """The same random numbers in each run."""
    return Random(word)


# Words, and values of other kinds, for variables and names.
VARIABLES = ("x", "y", "z", "a", "b", "k", "rr", "ar", "no", "xy", "any", "zzz", "abc", "nor", "al")
NO_VARIABLES = (
    "", "all", "and", "not", "or", "r", "some", "abcd", "X", "xY", "x1", "1", "x ", " x", "_", "x_", "\u00e9", "x\n", "%",
    0, 1, -1, True, False, None, (), ("x",), [], ["x"], {}, {"x": 1}, b"x", 1.5, object(),
)
NAMES = ("even", "twice", "evenly", "somes", "flor", "leave", "abcdefgh", "rrrr", "alls", "undery")
NO_NAMES = (
    "", "x", "abc", "some", "floor", "under", "leaves", "abcdefghi", "Even", "even1", "ev en", "ev_n", "\u00e9ven", "even\n",
    0, True, None, (), ("even",), [], ["even"], b"even",
)
SLOPES = tuple((i, j, k) for i in range(-9, 10) for j in range(-3, 4) for k in range(1, 5))


def all_letters(root, many):
    """The letters for so many names, ascending."""
    return list(product(range(max(PERIODS[root]) + 1), repeat=many))


def digits_of_number(root, number):
    """The digits of a number from the greatest step down, without the package."""
    digits = []
    for step in reversed(step_list(root, 5 * len(str(number)) + 5)):
        digit, number = divmod(number, step)
        digits.append(digit)
    while digits and digits[0] == 0:
        digits.pop(0)
    return digits[::-1]


def letters_of_numbers(root, numbers, more=0):
    """The letters of several numbers, with zeros behind shorter ones and so many further letters of zeros."""
    lists = [digits_of_number(root, number) for number in numbers]
    length = max(map(len, lists), default=0) + more
    return [tuple(digits[place] if place < len(digits) else 0 for digits in lists) for place in range(length)]


def answer_of(machine, numbers):
    """The answer for numbers in the order of the names, read from the rows as they are told."""
    root = machine.field.root
    order = {letter: number for number, letter in enumerate(all_letters(root, len(machine.names())))}
    room, rows = 0, machine.rows()
    for letter in letters_of_numbers(root, numbers):
        room = rows[room][order[letter]]
    return machine.answers()[room]


@lru_cache(maxsize=None)
def equation_machine(root, factors, constant):
    """The machine of an equation for pairs of a name and its factor, by the carried pairs of the package."""
    field, names = Field(root), sorted(name for name, _ in factors)
    numbers = [dict(factors)[name] for name in names]

    def state(word):
        flags = tuple(digit != 0 for digit in word[-1]) if word else None
        return len(word) % len(PERIODS[root]), flags, tuple(carried(field, numbers, constant, word))

    words, known, rows = [()], {state(()): 0}, []
    while len(rows) < len(words):
        goals = []
        for letter in all_letters(root, len(names)):
            word = (*words[len(rows)], letter)
            if any(first_wrong(root, digits) is not None for digits in zip(*word)):
                goals.append(None)
                continue
            if known.setdefault(state(word), len(words)) == len(words):
                words.append(word)
            goals.append(known[state(word)])
        rows.append(goals)
    rows.append([None for _ in rows[0]])
    rows = [[len(words) if goal is None else goal for goal in goals] for goals in rows]
    answers = [(0, 0) in carried(field, numbers, constant, word) for word in words]
    return Machine(field, names, rows, [*answers, False])


def equals(root, constant=0, **factors):
    """The machine of c(1) n(1) + .. + c = 0 with the factors by the names."""
    # Equations that differ in their names alone are built once.
    order = sorted(factors, key=lambda name: (factors[name], name))
    built = equation_machine(root, tuple((stand, factors[name]) for stand, name in zip("pqst", order)), constant)
    return built.renamed(**dict(zip("pqst", order)))


def less(root, one, other):
    """The machine of one < other."""
    return smaller_machine(root).renamed(p=one, q=other)


@lru_cache(maxsize=None)
def smaller_machine(root):
    return equals(root, 1, p=1, s=1, q=-1).some("s")


def same_answers(rows, answers):
    """For each room its class among the rooms that give the same answers, by going over all rooms again and again."""
    classes = [int(answer) for answer in answers]
    while True:
        looks = [(classes[room], tuple(classes[goal] for goal in row)) for room, row in enumerate(rows)]
        order = {look: number for number, look in enumerate(sorted(set(looks)))}
        if len(order) == len(set(classes)):
            return [order[look] for look in looks]
        classes = [order[look] for look in looks]


def wrong_at_least_machine(machine):
    """What is wrong with the rooms of a machine by point 9; None if nothing is."""
    root, names, rows, answers = machine.field.root, machine.names(), machine.rows(), machine.answers()
    letters = all_letters(root, len(names))
    if len(rows) != len(answers) or any(len(row) != len(letters) for row in rows):
        return "the sizes"
    if any(type(answer) is not bool for answer in answers) or any(type(g) is not int for row in rows for g in row):
        return "the kinds"
    reached = [0]
    for room in range(len(rows)):
        if room >= len(reached):
            return "a room that is not reached"
        for goal in rows[room]:
            if goal not in reached:
                reached.append(goal)
    if reached != list(range(len(rows))):
        return "the order of the rooms"
    if len(set(same_answers(rows, answers))) != len(rows):
        return "two rooms that give the same answers"
    if any(answers[row[0]] != answers[room] for room, row in enumerate(rows)):
        return "an answer that letters of zeros change"
    return wrong_digits_answer(root, len(names), rows, answers)


def wrong_digits_answer(root, many, rows, answers):
    """A room with the answer True behind digits that cannot stand; None if there is none."""
    hopeless = {room for room, row in enumerate(rows) if not answers[room] and set(row) == {room}}
    letters, period = all_letters(root, many), PERIODS[root]
    waiting = [(0, 0, (1,) * many)]
    seen = set(waiting)
    for room, rest, lower in waiting:
        for goal, letter in zip(rows[room], letters):
            if all(digit < period[rest] + (below == 0) for digit, below in zip(letter, lower)):
                stand = (goal, (rest + 1) % len(period), tuple(int(digit != 0) for digit in letter))
                if stand not in seen:
                    seen.add(stand)
                    waiting.append(stand)
            elif goal not in hopeless:
                return f"room {room}, letter {letter}"
    return None


def any_number(random, figures=40):
    """A number with at most so many figures; short ones are as likely as long ones."""
    return random.randint(0, 10 ** random.randint(0, figures) - 1)


def any_term(random, names, floors=3):
    """A term with some of the names, and floors at most so many deep."""
    items = []
    for _ in range(random.choice((0, 1, 1, 1, 2, 2, 3, 4))):
        if floors and random.random() < 0.3:
            thing = ("floor", random.choice(SLOPES), any_term(random, names, floors - 1))
        elif names:
            thing = random.choice(names)
        else:
            continue
        items.append((random.choice((-9, -5, -2, -1, 1, 1, 1, 2, 3, 9)), thing))
    return tuple(items), random.choice((-1000, -999, -10, -1, 0, 0, 0, 0, 1, 7, 100, 1000, random.randint(-1000, 1000)))


def any_comparison(random, names):
    """A saying of one part."""
    def term():
        return any_term(random, names)

    word = random.choice(("equal", "less", "under", "leaves", "use"))
    if word == "under":
        return word, term(), random.choice(SLOPES), term()
    if word == "leaves":
        divisor = random.randint(2, 9)
        return word, term(), divisor, random.randrange(divisor)
    if word == "use":
        many = random.randint(0, 3) if names else 0
        return word, random.choice(NAMES), tuple(random.choice(names) for _ in range(many))
    return word, term(), term()


def any_saying_of(random, many, around):
    """A saying of so many parts; around are the variables that may be free in it or are bound around it."""
    if many == 1:
        return any_comparison(random, around)
    words = ["not"]
    if many > 2:
        words += ["and", "or"]
    fresh = [name for name in VARIABLES if name not in around]
    if len(around) < 3:
        words += ["some", "all", "some", "all"]
    word = random.choice(words)
    if word == "not":
        return word, any_saying_of(random, many - 1, around)
    if word in ("some", "all"):
        name = random.choice(fresh)
        return word, name, any_saying_of(random, many - 1, (*around, name))
    pieces = random.randint(2, min(4, many - 1))
    cuts = sorted(random.sample(range(1, many - 1), pieces - 1))
    sizes = [end - start for start, end in zip([0, *cuts], [*cuts, many - 1])]
    return word, *(any_saying_of(random, size, around) for size in sizes)


def any_saying(random, most=20):
    """A valid saying of at most so many parts."""
    free = tuple(random.sample(VARIABLES, random.randint(0, 3)))
    return any_saying_of(random, random.choice((1, 2, 3, random.randint(1, most), most)), free)


def inner_places(saying):
    """The indexes at which sayings stand in a saying."""
    if saying[0] in ("not", "and", "or"):
        return range(1, len(saying))
    return (2,) if saying[0] in ("some", "all") else ()


def parts_with_around(saying, around=()):
    """The pairs of a part and the variables that are bound around it, in order."""
    found = [(saying, around)]
    for place in inner_places(saying):
        inside = (*around, saying[1]) if saying[0] in ("some", "all") else around
        found += parts_with_around(saying[place], inside)
    return found


def variables_in(value):
    """All variables in the terms and uses of one part, at any depth."""
    if value[0] == "use":
        return set(value[2])
    terms, found = [piece for piece in value if isinstance(piece, tuple) and len(piece) == 2], set()
    if value[0] not in ("equal", "less", "under", "leaves"):
        return found
    while terms:
        for _, thing in terms.pop()[0]:
            if isinstance(thing, str):
                found.add(thing)
            else:
                terms.append(thing[2])
    return found


def free_in(saying):
    """The free variables of a saying, ascending."""
    return sorted({name for part, around in parts_with_around(saying) for name in variables_in(part) - set(around)})


def with_parts(saying, others):
    """The saying with the values of a dict in the place of the parts with these numbers."""
    numbers = count()

    def rebuilt(part):
        number = next(numbers)
        places = inner_places(part)
        made = tuple(rebuilt(piece) if place in places else piece for place, piece in enumerate(part))
        return others.get(number, made)

    return rebuilt(saying)


def first_misbound(saying):
    """The number of the first part that breaks the rules of bound variables; None if none does."""
    free = set(free_in(saying))
    for number, (part, around) in enumerate(parts_with_around(saying)):
        if len(free | set(around)) > 3:
            return number
        if part[0] in ("some", "all") and part[1] in free | set(around):
            return number
    return None


def floor_at(root, slope, whole):
    """The floor of a slope times an integer."""
    i, j, k = slope
    size = isqrt(root * j * j * whole * whole)
    if j * whole < 0:
        size = -size - (size * size != root * j * j * whole * whole)
    return (i * whole + size) // k


def worth(root, term, row):
    """The value of a term."""
    total = term[1]
    for factor, thing in term[0]:
        here = row[thing] if isinstance(thing, str) else floor_at(root, thing[1], worth(root, thing[2], row))
        total += factor * here
    return total


def truth(root, saying, row, bound=0, uses=None):
    """Whether a saying holds for a row, if the numbers below a bound are enough; uses are functions by the names."""
    word = saying[0]
    if word == "equal":
        return worth(root, saying[1], row) == worth(root, saying[2], row)
    if word == "less":
        return worth(root, saying[1], row) < worth(root, saying[2], row)
    if word == "under":
        i, j, k = saying[2]
        one, other = worth(root, saying[1], row), worth(root, saying[3], row)
        # k t - i u < j r u
        return square(k * one - i * other) < square(j * other) * root
    if word == "leaves":
        return worth(root, saying[1], row) % saying[2] == saying[3]
    if word == "use":
        return uses[saying[1]](*(row[name] for name in saying[2]))
    if word == "not":
        return not truth(root, saying[1], row, bound, uses)
    if word in ("some", "all"):
        found = (truth(root, saying[2], {**row, saying[1]: number}, bound, uses) for number in range(bound))
        return any(found) if word == "some" else all(found)
    found = (truth(root, part, row, bound, uses) for part in saying[1:])
    return all(found) if word == "and" else any(found)


def near_rows(random, names, many, figures=30):
    """Rows of small, near and great numbers."""
    for _ in range(many):
        start = any_number(random, figures)
        yield {
            name: random.choice((random.randint(0, 12), max(0, start + random.randint(-9, 9)), any_number(random, figures),
                                 2 * start, start // 2, start // 3))
            for name in names
        }

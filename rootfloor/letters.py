"""Letters: tuples of digits for several names, and their numbers in ascending order."""


def letters_of(base, many):
    """All letters of so many digits below a base, ascending."""
    letters = [()]
    for _ in range(many):
        letters = [(*letter, digit) for letter in letters for digit in range(base)]
    return letters


def weights_of(base, names):
    """For each name how much 1 more as its digit adds to the number of a letter."""
    weights = {}
    weight = 1
    for name in reversed(names):
        weights[name] = weight
        weight = weight * base
    return weights


def spread(base, weights):
    """For each letter, ascending, the sum of its digits, each times its weight."""
    sums = [0]
    for weight in weights:
        sums = [before + digit * weight for before in sums for digit in range(base)]
    return sums


def picks_without(base, names, name):
    """For each digit of a name the list of the numbers of the letters with it, by the letters of the other names."""
    weights = weights_of(base, names)
    starts = spread(base, [weights[other] for other in names if other != name])
    return [[start + digit * weights[name] for start in starts] for digit in range(base)]


def sums_by_place(rows, weights):
    """For each place the sum of the digits there, each times the weight of its list of digits."""
    places = max([len(digits) for digits in rows], default=0)
    return [
        sum([digits[place] * weight for digits, weight in zip(rows, weights) if place < len(digits)])
        for place in range(places)
    ]

"""Slow sums of fractions for the tests of marks, tables and what they tell."""

import itertools
from fractions import Fraction

from tests.helpers import random_condition, slow_let


def slow_marks(house, lots):
    """All lots whose switches are all in one of these, in order."""
    found = []
    for size in range(len(house[1]) + 1):
        found += [mark for mark in itertools.combinations(house[1], size) if any(set(mark) <= set(lot) for lot in lots)]
    return tuple(found)


def slow_counts(house, lots):
    """For each let setting, for each mark, whether it counts."""
    return [[int(set(mark) <= set(setting)) for mark in slow_marks(house, lots)] for setting in slow_let(house)]


def solved(vectors, goal):
    """Fractions with which the vectors sum up to the goal, those told by ones ahead left out; None without any."""
    used, rows = [], []
    for place, vector in enumerate(vectors):
        if rest_of(rows, vector)[0] is not None:
            rows.append(rest_of(rows, vector) + (place,))
            used.append(place)
    # Of the vectors that are used the fractions are found by taking the goal apart.
    matrix = [[Fraction(vectors[place][at]) for place in used] + [Fraction(goal[at])] for at in range(len(goal))]
    lead = 0
    for column in range(len(used)):
        pivot = next(row for row in range(lead, len(matrix)) if matrix[row][column])
        matrix[lead], matrix[pivot] = matrix[pivot], matrix[lead]
        matrix[lead] = [worth / matrix[lead][column] for worth in matrix[lead]]
        for row in range(len(matrix)):
            if row != lead and matrix[row][column]:
                often = matrix[row][column]
                matrix[row] = [one - often * other for one, other in zip(matrix[row], matrix[lead])]
        lead += 1
    if any(row[-1] for row in matrix[lead:]):
        return None
    fractions = dict(zip(used, [matrix[at][-1] for at in range(len(used))]))
    return [fractions.get(place, Fraction(0)) for place in range(len(vectors))]


def rest_of(rows, vector):
    """The place of the first number that is left of the vector without these rows, None if none is, and what is left."""
    rest = [Fraction(number) for number in vector]
    for pivot, row, _ in rows:
        if rest[pivot]:
            rest = [one - rest[pivot] / row[pivot] * other for one, other in zip(rest, row)]
    for place, number in enumerate(rest):
        if number:
            return place, rest
    return None, rest


def pair_of(number):
    number = Fraction(number)
    return (number.numerator, number.denominator)


def fraction_of(pair):
    return Fraction(pair[0], pair[1])


def random_lots(dice, house, most=4):
    """Some unlike lots of switches of the house."""
    every = [lot for size in range(len(house[1]) + 1) for lot in itertools.combinations(house[1], size)]
    return tuple(dice.sample(every, dice.randint(0, min(most, len(every)))))


def random_table(dice, house, lots, far=5):
    """A table that is within the lots more often than not."""
    counts = slow_counts(house, lots)
    weights = [dice.randint(-far, far) for _ in counts[0]] if counts else []
    table = [sum(one * other for one, other in zip(row, weights)) for row in counts]
    if table and dice.random() < 0.6:
        table[dice.randrange(len(table))] += dice.randint(-2, 2)
    return tuple(table)


def ruled(dice, switches):
    """A house of these switches with a rule by chance."""
    return ("house", switches, random_condition(dice, switches, dice.randint(1, 6)))

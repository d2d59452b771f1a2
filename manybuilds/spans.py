"""Vectors of whole numbers, and the fractions with which some of them sum up to others."""

from math import gcd


def _lowest(numbers):
    """The numbers without a common divisor above 1."""
    common = 0
    for number in numbers:
        common = gcd(common, number)
    return [number // common for number in numbers] if common > 1 else numbers


def fraction(above, below):
    """The fraction as a pair, in its lowest terms; what is below the line is not 0."""
    above, below = _lowest([above, below])
    return (above, below) if below > 0 else (-above, -below)


def whole(pairs):
    """The fractions times the least number above 0 with which all are whole numbers without a common divisor."""
    common = 1
    for _, below in pairs:
        common = common // gcd(common, below) * below
    return _lowest([above * (common // below) for above, below in pairs])


def weighed(pairs, numbers):
    """The sum of the fractions times the numbers, as a fraction."""
    total = (0, 1)
    for (above, below), number in zip(pairs, numbers):
        total = fraction(total[0] * below + above * number * total[1], total[1] * below)
    return total


class Span:
    """Vectors that were tried one behind the other, each taken unless it is told by those that were taken.

    Behind a vector stand as many numbers as vectors may be tried, and one
    more: of which vectors it is a sum, and how often.
    """

    def __init__(self, width, most):
        self.width = width
        self.many = 0
        self.most = most
        self.rows = []

    def _rest(self, vector, place):
        """What is left of the vector without those that were taken, with how often each was used behind it."""
        rest = list(vector) + [0] * (self.most + 1)
        rest[self.width + place] = 1
        for pivot, row in self.rows:
            if rest[pivot]:
                once, often = row[pivot], rest[pivot]
                rest = _lowest([once * one - often * other for one, other in zip(rest, row)])
        return rest

    def tried(self, vector):
        """Take the vector unless it is told; whether it was taken."""
        rest = self._rest(vector, self.many)
        self.many += 1
        for pivot in range(self.width):
            if rest[pivot]:
                self.rows.append((pivot, rest))
                return True
        return False

    def fractions(self, vector):
        """For each vector that was tried the fraction of it in this one, those taken alone; None if it is not told."""
        rest = self._rest(vector, self.most)
        if any(rest[:self.width]):
            return None
        return [fraction(-above, rest[-1]) for above in rest[self.width:self.width + self.many]]

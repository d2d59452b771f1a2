"""Sets of expressions, each known by a number: equal sets have one number.

Deep tuples make slow keys; two numbers are compared in one step. A set is a
tuple of ways, each a label and the numbers of the sets from which its parts
are taken, all ways with unlike labels. An expression is a set of itself alone.
"""

from manybuilds.masks import switch_bit
from manybuilds.trees import label_key, label_of, parts_of


class Forest:
    """All sets that were made so far."""

    def __init__(self):
        self.known = {}
        self.ways = []

    def gathered(self, ways):
        """The number of the set with these pairs of a label and numbers of parts."""
        return self._number(tuple(sorted(ways, key=lambda way: label_key((), way[0]))))

    def node(self, label, kids):
        """The number of the set of the nodes with this label and parts from these sets."""
        return self._number(((label, tuple(kids)),))

    def _number(self, ways):
        """The number of the set with these ways, which are in order."""
        if ways not in self.known:
            self.known[ways] = len(self.ways)
            self.ways.append(ways)
        return self.known[ways]

    def planted(self, expression):
        """The number of the expression."""
        return self.node(label_of(expression), [self.planted(part) for part in parts_of(expression)])

    def kids_under(self, number, label):
        """The numbers of the parts below this label, or None if the set has no such node."""
        for known, kids in self.ways[number]:
            if known == label:
                return kids
        return None

    def label(self, number):
        """The label of the one expression of the set."""
        return self.ways[number][0][0]

    def kids(self, number):
        """The numbers of the parts of the one expression of the set."""
        return self.ways[number][0][1]

    def tree(self, number):
        """The one expression of the set."""
        return self.label(number) + tuple([self.tree(kid) for kid in self.kids(number)])

    def built(self, switches, line, numbers):
        """The numbers of the builds of the line, for each of the settings with these numbers."""
        if line[0] == "choice":
            return self._picked(switches, line, numbers)
        label = label_of(line)
        columns = [self.built(switches, part, numbers) for part in parts_of(line)]
        if not columns:
            return [self.node(label, ())] * len(numbers)
        return [self.node(label, kids) for kids in zip(*columns)]

    def _picked(self, switches, line, numbers):
        """The same as built, of a choice."""
        bit = switch_bit(switches, line[1])
        ons = [number for number in numbers if number & bit]
        offs = [number for number in numbers if not number & bit]
        picked = dict(zip(ons, self.built(switches, line[2], ons)))
        picked.update(dict(zip(offs, self.built(switches, line[3], offs))))
        return [picked[number] for number in numbers]

"""The search for least lines.

A task is a mask of settings and a row: for each of these settings, in order,
the number of the set (see forest) in which its build must lie. A line for the
task is either a choice, with a line for each of the two tasks into which its
switch parts this one, or another node, with a line for the task of each part.
Both are tried: neither pushing choices in nor pulling them out leads to the
least line alone.
"""

from manybuilds.masks import mask_of, numbers_in, switch_bit


class Parting:
    """A switch that parts settings, with the places in their row of both sides."""

    def __init__(self, s, bit, numbers):
        self.s = s
        self.on_places = [place for place, number in enumerate(numbers) if number & bit]
        self.off_places = [place for place, number in enumerate(numbers) if not number & bit]
        self.on_mask = mask_of([numbers[place] for place in self.on_places])
        self.off_mask = mask_of([numbers[place] for place in self.off_places])
        places = {number: place for place, number in enumerate(numbers)}
        self.twins = [(places[number], places[number ^ bit]) for number in numbers
                      if number & bit and number ^ bit in places]

    def on_side(self, row):
        """The task of the settings that have the switch on."""
        return (self.on_mask, tuple([row[place] for place in self.on_places]))

    def off_side(self, row):
        """The task of the settings that have the switch off."""
        return (self.off_mask, tuple([row[place] for place in self.off_places]))

    def needless(self, row):
        """A side whose least line is that of the whole task, or None.

        So it is if each setting of the other side has its twin here, with an
        equal build: then no line needs to know the switch.
        """
        if len(self.twins) == len(self.off_places):
            side = self.on_side(row)
        elif len(self.twins) == len(self.on_places):
            side = self.off_side(row)
        else:
            return None
        for one, other in self.twins:
            if row[one] != row[other]:
                return None
        return side


class Search:
    """All tasks of some switches that were searched so far."""

    def __init__(self, forest, switches):
        self.forest = forest
        self.switches = switches
        self.known_partings = {}
        self.narrow = {}
        self.found = {}

    def partings(self, mask):
        """All switches that part the settings of the mask."""
        if mask not in self.known_partings:
            numbers = numbers_in(mask)
            several = [Parting(s, switch_bit(self.switches, s), numbers) for s in self.switches]
            self.known_partings[mask] = [parting for parting in several if parting.on_mask and parting.off_mask]
        return self.known_partings[mask]

    def narrowed(self, task):
        """A task of as few settings as can easily be that has just the same fewest lines."""
        if task not in self.narrow:
            self.narrow[task] = self._narrowed(task)
        return self.narrow[task]

    def _narrowed(self, task):
        mask, row = task
        if row.count(row[0]) == len(row):
            # Which setting it is does not matter where none is parted from others.
            return (1, row[:1])
        for parting in self.partings(mask):
            side = parting.needless(row)
            if side is not None:
                return self.narrowed(side)
        return task

    def steps(self, task):
        """All ways to begin a line for the task, in order: a label and the tasks of the parts."""
        mask, row = task
        steps = []
        for label, first in self.forest.ways[row[0]]:
            columns = self._columns(label, row)
            if columns is not None:
                steps.append((label, [(mask, columns[at]) for at in range(len(first))]))
        for parting in self.partings(mask):
            steps.append((("choice", parting.s), [parting.on_side(row), parting.off_side(row)]))
        return steps

    def _columns(self, label, row):
        """The rows of the parts below this label, or None if not each set of the row has it."""
        under = {}
        for number in row:
            if number not in under:
                kids = self.forest.kids_under(number, label)
                if kids is None:
                    return None
                under[number] = kids
        rows = [under[number] for number in row]
        return list(zip(*rows))

    def best(self, task):
        """How many choices and nodes the least line for the task has, and this line."""
        task = self.narrowed(task)
        if task in self.found:
            return self.found[task]
        best = None
        for label, tasks in self.steps(task):
            choices = 1 if label[0] == "choice" else 0
            nodes = 1
            parts = []
            for inner in tasks:
                if best is not None and choices > best[0]:
                    break
                found = self.best(inner)
                choices += found[0]
                nodes += found[1]
                parts.append(found[2])
            # Steps come in the order of their labels, so an equal one is behind.
            if best is None or (choices, nodes) < (best[0], best[1]):
                best = (choices, nodes, label + tuple(parts))
        self.found[task] = best
        return best


def least_line(forest, switches, numbers, row):
    """The least line whose builds for the settings with these numbers lie in the sets of the row."""
    if not numbers:
        return ("number", 0)
    return Search(forest, switches).best((mask_of(numbers), tuple(row)))[2]

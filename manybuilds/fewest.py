"""All lines with the fewest choices."""

from itertools import product

from manybuilds.conditions import judge_house, let_numbers
from manybuilds.errors import TooMany
from manybuilds.forest import Forest
from manybuilds.lines import judge_line
from manybuilds.masks import mask_of
from manybuilds.searching import Search
from manybuilds.trees import order_key

MOST = 200


class Census:
    """The lines with the fewest choices for the tasks of a search."""

    def __init__(self, search):
        self.search = search
        self.known_steps = {}
        self.counts = {}
        self.lists = {}

    def fewest_steps(self, task):
        """The first steps of the lines with the fewest choices."""
        if task not in self.known_steps:
            self.known_steps[task] = self._fewest_steps(task)
        return self.known_steps[task]

    def _fewest_steps(self, task):
        fewest = self.search.best(task)[0]
        steps = []
        for label, tasks in self.search.steps(task):
            choices = sum([self.search.best(inner)[0] for inner in tasks])
            if label[0] == "choice":
                choices += 1
            if choices == fewest:
                steps.append((label, tasks))
        return steps

    def count_of(self, task):
        """How many lines there are for the task."""
        task = self.search.narrowed(task)
        if task not in self.counts:
            total = 0
            for _, tasks in self.fewest_steps(task):
                several = 1
                for inner in tasks:
                    several *= self.count_of(inner)
                total += several
            self.counts[task] = total
        return self.counts[task]

    def lines_of(self, task):
        """All lines for the task, in any order."""
        task = self.search.narrowed(task)
        if task not in self.lists:
            lines = []
            for label, tasks in self.fewest_steps(task):
                beginnings = [label]
                for inner in tasks:
                    parts = self.lines_of(inner)
                    beginnings = [begun + (part,) for begun, part in product(beginnings, parts)]
                lines.extend(beginnings)
            self.lists[task] = lines
        return list(self.lists[task])


def _census(house, line):
    """The census of the lines alike the line, and their task, or None if no setting is let."""
    judge_house(house)
    judge_line(house, line)
    numbers = let_numbers(house)
    if not numbers:
        return None
    forest = Forest()
    row = forest.built(house[1], line, numbers)
    return (Census(Search(forest, house[1])), (mask_of(numbers), tuple(row)))


def fewest_lines(house, line):
    """All lines alike the line with the fewest choices, those ahead first."""
    begun = _census(house, line)
    if begun is None:
        return ()
    census, task = begun
    if census.count_of(task) > MOST:
        raise TooMany(MOST)
    return tuple(sorted(census.lines_of(task), key=lambda found: order_key(house[1], found)))


def count_fewest(house, line):
    """How many lines alike the line there are with the fewest choices."""
    begun = _census(house, line)
    if begun is None:
        return 0
    census, task = begun
    return census.count_of(task)

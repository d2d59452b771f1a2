"""Told copies joined to one line, and what they make sure of the others."""

from manybuilds.conditions import judge_house, judge_let, let_numbers
from manybuilds.errors import TooMany
from manybuilds.fewest import Census
from manybuilds.forest import Forest
from manybuilds.masks import mask_of, number_of, setting_of, switch_bit
from manybuilds.searching import Search, least_line
from manybuilds.telling import judge_told
from manybuilds.trees import order_key

MOST = 60


def _planted(house, forest, copies):
    """The numbers of the told settings, each with that of its expression."""
    return {number_of(house[1], setting): forest.planted(tree) for setting, tree in copies}


def joined(house, copies):
    """The line ahead of all others with the told builds."""
    judge_house(house)
    judge_told(house, copies)
    forest = Forest()
    known = _planted(house, forest, copies)
    numbers = sorted(known)
    return least_line(forest, house[1], numbers, [known[number] for number in numbers])


def guesses(house, copies):
    """The joined lines of the first 0, 1, 2 and more of the copies."""
    judge_house(house)
    judge_told(house, copies)
    search = Search(Forest(), house[1])
    known = _planted(house, search.forest, copies)
    lines = [("number", 0)]
    for many in range(1, len(copies) + 1):
        numbers = sorted(list(known)[:many])
        lines.append(search.best((mask_of(numbers), tuple([known[number] for number in numbers])))[2])
    return tuple(lines)


class Possible:
    """The builds for one setting of the lines with the fewest choices for tasks, up to a greatest number."""

    def __init__(self, census, number, most):
        self.census = census
        self.number = number
        self.most = most
        self.known = {}

    def builds_for(self, task):
        """The numbers of all these builds, or None if there are too many."""
        task = self.census.search.narrowed(task)
        if task not in self.known:
            self.known[task] = self._found(task)
        return self.known[task]

    def _found(self, task):
        found = {}
        for label, tasks in self.census.fewest_steps(task):
            more = self._behind(label, tasks)
            # Each way to begin such a line goes on to one, so too many of one part are too many of the whole.
            if more is None:
                return None
            for number in more:
                found[number] = True
            if len(found) > self.most:
                return None
        return list(found)

    def _behind(self, label, tasks):
        """The same as builds_for, of the lines that begin with this label."""
        if label[0] == "choice":
            on = self.number & switch_bit(self.census.search.switches, label[1])
            return self.builds_for(tasks[0] if on else tasks[1])
        beginnings = [()]
        for inner in tasks:
            parts = self.builds_for(inner)
            if parts is None or len(beginnings) * len(parts) > self.most:
                return None
            beginnings = [begun + (part,) for begun in beginnings for part in parts]
        return [self.census.search.forest.node(label, kids) for kids in beginnings]


def _begun(house, copies):
    """The census of the lines with the told builds, and their task."""
    forest = Forest()
    known = _planted(house, forest, copies)
    numbers = sorted(known)
    task = (mask_of(numbers), tuple([known[number] for number in numbers]))
    return Census(Search(forest, house[1])), task


def possible(house, copies, setting):
    """The builds for the setting of all lines with the told builds and the fewest choices, in order."""
    judge_house(house)
    judge_told(house, copies)
    judge_let(house, setting)
    if not copies:
        raise TooMany(MOST)
    census, task = _begun(house, copies)
    found = Possible(census, number_of(house[1], setting), MOST).builds_for(task)
    if found is None:
        raise TooMany(MOST)
    trees = [census.search.forest.tree(number) for number in found]
    return tuple(sorted(trees, key=lambda tree: order_key((), tree)))


def sure(house, copies):
    """The let settings with just one possible build, each with this build."""
    judge_house(house)
    judge_told(house, copies)
    if not copies:
        return ()
    census, task = _begun(house, copies)
    told = {number_of(house[1], setting): tree for setting, tree in copies}
    pairs = []
    for number in let_numbers(house):
        setting = setting_of(house[1], number)
        if number in told:
            pairs.append((setting, told[number]))
            continue
        found = Possible(census, number, 1).builds_for(task)
        if found is not None:
            pairs.append((setting, census.search.forest.tree(found[0])))
    return tuple(pairs)

"""Floors: what shows that a line needs its choices."""

from manybuilds.conditions import is_lot, judge_house, let_mask
from manybuilds.errors import TooMany
from manybuilds.forest import Forest
from manybuilds.lines import judge_line
from manybuilds.masks import mask_of, number_of, numbers_in, setting_of
from manybuilds.searching import Search
from manybuilds.trees import FIRST, is_number

MOST = 400


class Ground:
    """The builds of a line, and the places in them: pairs of a path and a mask of settings."""

    def __init__(self, house, line):
        self.switches = house[1]
        self.let = let_mask(house)
        self.forest = Forest()
        self.search = Search(self.forest, house[1])
        numbers = numbers_in(self.let)
        self.roots = dict(zip(numbers, self.forest.built(house[1], line, numbers)))

    def row_below(self, row, index):
        """The row at this index below the nodes of the row, or None if they do not all have such parts."""
        label = self.forest.label(row[0])
        at = index - FIRST[label[0]]
        if not 0 <= at < len(self.forest.kids(row[0])):
            return None
        if any(self.forest.label(number) != label for number in row):
            return None
        return tuple([self.forest.kids(number)[at] for number in row])

    def row_at(self, path, mask):
        """The row of the nodes at the path for the settings of the mask, or None if this is no place."""
        row = tuple([self.roots[number] for number in numbers_in(mask)])
        for index in path:
            row = self.row_below(row, index)
            if row is None:
                return None
        return row

    def places_below(self, path, mask, row):
        """The places below an even place, or None if it is not even."""
        label = self.forest.label(row[0])
        if any(self.forest.label(number) != label for number in row):
            return None
        first = FIRST[label[0]]
        return [(path + (first + at,), mask) for at in range(len(self.forest.kids(row[0])))]

    def parted_places(self, path, mask):
        """For each switch that parts the place the two places into which it does."""
        return [[(path, parting.on_mask), (path, parting.off_mask)] for parting in self.search.partings(mask)]

    def costly(self):
        """The rows of all places with a cost above 0 that come of the first one; TooMany."""
        rows = {}
        todo = [((), self.let)]
        while todo:
            place = todo.pop()
            path, mask = place
            if place in rows or not mask:
                continue
            row = self.row_at(path, mask)
            # Just where the nodes are unlike some choice is needed.
            if row.count(row[0]) == len(row):
                continue
            rows[place] = row
            if len(rows) > MOST:
                raise TooMany(MOST)
            todo.extend(self.places_below(path, mask, row) or [])
            for sides in self.parted_places(path, mask):
                todo.extend(sides)
        return rows

    def is_held(self, place, number, known):
        """Whether the number at the place is no greater than those of the places that come of it let."""
        path, mask = place
        row = self.row_at(path, mask)
        sums = [1 + sum([known.get(side, 0) for side in sides]) for sides in self.parted_places(path, mask)]
        inner = self.places_below(path, mask, row)
        if inner is not None:
            sums.append(sum([known.get(low, 0) for low in inner]))
        return all(number <= most for most in sums)


def floor(house, line):
    """The places with a cost above 0, with their costs, in order."""
    judge_house(house)
    judge_line(house, line)
    ground = Ground(house, line)
    told = []
    for (path, mask), row in ground.costly().items():
        numbers = numbers_in(mask)
        lot = tuple([setting_of(house[1], number) for number in numbers])
        cost = ground.search.best((mask, row))[0]
        told.append(((path, -len(lot), numbers), ((path, lot), cost)))
    told = sorted(told, key=lambda pair: pair[0])
    return tuple([pair[1] for pair in told])


def lot_mask(switches, let, thing):
    """The mask of a lot of settings of the mask let, or None for any value that is none."""
    if not isinstance(thing, tuple) or not thing:
        return None
    if not all(is_lot(switches, setting) for setting in thing):
        return None
    numbers = [number_of(switches, setting) for setting in thing]
    if not all(one < other for one, other in zip(numbers, numbers[1:])):
        return None
    mask = mask_of(numbers)
    return mask if mask & ~let == 0 else None


def _told_place(ground, thing):
    """The place that any value tells, as a path and a mask, or None."""
    if not isinstance(thing, tuple) or len(thing) != 2:
        return None
    path, lot = thing
    if not isinstance(path, tuple) or not all(is_number(index) for index in path):
        return None
    mask = lot_mask(ground.switches, ground.let, lot)
    if mask is None or ground.row_at(path, mask) is None:
        return None
    return (path, mask)


def _told_numbers(ground, thing):
    """The numbers by places that any value tells, or None if it tells none."""
    if not isinstance(thing, tuple):
        return None
    known = {}
    for pair in thing:
        if not isinstance(pair, tuple) or len(pair) != 2:
            return None
        place = _told_place(ground, pair[0])
        if place is None or place in known or not is_number(pair[1]) or pair[1] < 0:
            return None
        known[place] = pair[1]
    return known


def is_floor(house, line, thing):
    """Whether any value is a floor of the line."""
    judge_house(house)
    judge_line(house, line)
    ground = Ground(house, line)
    known = _told_numbers(ground, thing)
    if known is None:
        return False
    return all(number == 0 or ground.is_held(place, number, known) for place, number in known.items())

"""Which builds of a line teach all of it."""

from itertools import combinations

from manybuilds.conditions import judge_house, let_mask, let_numbers
from manybuilds.errors import BadLot, TooMany
from manybuilds.floors import lot_mask
from manybuilds.forest import Forest
from manybuilds.lines import judge_line
from manybuilds.masks import mask_of, numbers_in, setting_of
from manybuilds.searching import Search

MOST = 8


class School:
    """The builds of a line for all let settings."""

    def __init__(self, house, line):
        self.search = Search(Forest(), house[1])
        self.numbers = let_numbers(house)
        self.row = self.search.forest.built(house[1], line, self.numbers)

    def is_taught(self, lot):
        """Whether the joined line of the builds for the settings with these numbers has all builds."""
        known = dict(zip(self.numbers, self.row))
        found = ("number", 0)
        if lot:
            found = self.search.best((mask_of(lot), tuple([known[number] for number in lot])))[2]
        return self.search.forest.built(self.search.switches, found, self.numbers) == self.row


def teaches(house, line, lot):
    """Whether the joined line of the builds of the line for the lot is alike the line."""
    judge_house(house)
    judge_line(house, line)
    mask = 0 if isinstance(lot, tuple) and not lot else lot_mask(house[1], let_mask(house), lot)
    if mask is None:
        raise BadLot("this is no lot of let settings")
    return School(house, line).is_taught(numbers_in(mask))


def teaching(house, line):
    """All lots that teach the line and of which no setting can be left out, in order."""
    judge_house(house)
    judge_line(house, line)
    school = School(house, line)
    if len(school.numbers) > MOST:
        raise TooMany(MOST)
    lots = []
    for size in range(len(school.numbers) + 1):
        for lot in combinations(school.numbers, size):
            # What has a teaching lot within teaches, too, but not without need.
            if not any(all(number in lot for number in known) for known in lots) and school.is_taught(lot):
                lots.append(lot)
    return tuple([tuple([setting_of(house[1], number) for number in lot]) for lot in lots])

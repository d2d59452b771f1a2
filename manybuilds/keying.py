"""Keys: switches that are enough to know what is shown."""

from manybuilds.books import results_of
from manybuilds.conditions import judge_house
from manybuilds.enough import judge_lot, least_unlike, shares, sharing_lots, unlike_numbers
from manybuilds.lines import judge_line
from manybuilds.masks import number_of, setting_of


def _unlike(house, line):
    """The numbers of the lots of all switches at which two let settings that show unlike are unlike."""
    results = results_of(house, line)
    return unlike_numbers(list(results), list(results.values()))


def is_key(house, line, lot):
    """Whether no two let settings that show unlike are alike at all switches of the lot."""
    judge_house(house)
    judge_line(house, line)
    judge_lot(house, lot)
    return shares(house, lot, _unlike(house, line))


def pair_against(house, line, lot):
    """The first let setting with one behind it that shows unlike and is alike at the lot, and the first such one."""
    judge_house(house)
    judge_line(house, line)
    judge_lot(house, lot)
    results = results_of(house, line)
    bits = number_of(house[1], lot)
    for one, mine in results.items():
        for other, yours in results.items():
            if other > one and not (one ^ other) & bits and mine != yours:
                return (setting_of(house[1], one), setting_of(house[1], other))
    return None


def least_keys(house, line):
    """The keys that hold no other key, in order."""
    judge_house(house)
    judge_line(house, line)
    return sharing_lots(house, _unlike(house, line))


def key_clashes(house, line):
    """The lots of all switches at which settings that show unlike are unlike that hold no other one, in order."""
    judge_house(house)
    judge_line(house, line)
    return least_unlike(house, _unlike(house, line))

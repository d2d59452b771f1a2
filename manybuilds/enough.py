"""Switches that are enough to tell the builds of a line apart."""

from itertools import combinations

from manybuilds.conditions import is_lot, judge_house, let_numbers
from manybuilds.errors import BadLot, NotEnough
from manybuilds.forest import Forest
from manybuilds.lines import judge_line
from manybuilds.masks import number_of, setting_of
from manybuilds.searching import least_line


def all_lots(switches):
    """All lots of switches: fewer switches first, then ascending by indexes."""
    lots = []
    for size in range(len(switches) + 1):
        lots.extend([lot for lot in combinations(list(switches), size)])
    return lots


def _unlike(house, line):
    """For each lot of all switches at which two let settings with unlike builds are unlike its number."""
    numbers = let_numbers(house)
    row = Forest().built(house[1], line, numbers)
    unlike = {}
    for place, one in enumerate(numbers):
        for other_place in range(place):
            if row[place] != row[other_place]:
                unlike[one ^ numbers[other_place]] = True
    return list(unlike)


def judge_lot(house, lot):
    """Refuse what is no lot of switches."""
    if not is_lot(house[1], lot):
        raise BadLot("this is no lot of switches in the order of the house")


def _shares(house, lot, unlike):
    """Whether the lot has a switch of each of the lots that are told by their numbers."""
    bits = number_of(house[1], lot)
    return all(bits & other != 0 for other in unlike)


def is_enough(house, line, lot):
    """Whether any two let settings that are alike at the lot have equal builds."""
    judge_house(house)
    judge_line(house, line)
    judge_lot(house, lot)
    return _shares(house, lot, _unlike(house, line))


def _least_lots(lots):
    """The lots that have no other one of these within."""
    least_lots = []
    for lot in lots:
        if not any(all(s in lot for s in known) for known in least_lots):
            least_lots.append(lot)
    return tuple(least_lots)


def enough_lots(house, line):
    """The lots that are enough and have no other one within."""
    judge_house(house)
    judge_line(house, line)
    unlike = _unlike(house, line)
    return _least_lots([lot for lot in all_lots(house[1]) if _shares(house, lot, unlike)])


def differences(house, line):
    """The differences that have no other one within."""
    judge_house(house)
    judge_line(house, line)
    unlike = _unlike(house, line)
    return _least_lots([lot for lot in all_lots(house[1]) if number_of(house[1], lot) in unlike])


def least_with(house, line, lot):
    """The least of the lines alike the line in which only switches of the lot stand."""
    judge_house(house)
    judge_line(house, line)
    judge_lot(house, lot)
    if not _shares(house, lot, _unlike(house, line)):
        raise NotEnough("the lot of switches is not enough for the line")
    forest = Forest()
    numbers = let_numbers(house)
    seen = {}
    for number, tree in zip(numbers, forest.built(house[1], line, numbers)):
        # Settings that are alike at the lot are one setting of its switches alone.
        alike = [s for s in setting_of(house[1], number) if s in lot]
        seen[number_of(lot, alike)] = tree
    fewer = sorted(seen)
    return least_line(forest, lot, fewer, [seen[number] for number in fewer])

"""Switches that are enough to tell the builds of a line apart."""

from itertools import combinations

from manybuilds.conditions import is_lot, judge_house, let_numbers
from manybuilds.errors import BadLot, NotEnough
from manybuilds.forest import Forest
from manybuilds.lines import judge_line
from manybuilds.masks import number_of, setting_of
from manybuilds.searching import least_line


def all_lots(switches):
    """All lots of switches: fewer switches first, then ascending by indexes."""
    lots = []
    for size in range(len(switches) + 1):
        lots.extend([lot for lot in combinations(list(switches), size)])
    return lots


def unlike_numbers(numbers, row):
    """The numbers of the lots of all switches at which two of the settings with unlike things in the row are unlike."""
    unlike = {}
    for place, one in enumerate(numbers):
        for other_place in range(place):
            if row[place] != row[other_place]:
                unlike[one ^ numbers[other_place]] = True
    return list(unlike)


def _unlike(house, line):
    """The same for all let settings and their builds."""
    numbers = let_numbers(house)
    return unlike_numbers(numbers, Forest().built(house[1], line, numbers))


def judge_lot(house, lot):
    """Refuse what is no lot of switches."""
    if not is_lot(house[1], lot):
        raise BadLot("this is no lot of switches in the order of the house")


def shares(house, lot, unlike):
    """Whether the lot has a switch of each of the lots that are told by their numbers."""
    bits = number_of(house[1], lot)
    return all(bits & other != 0 for other in unlike)


def is_enough(house, line, lot):
    """Whether any two let settings that are alike at the lot have equal builds."""
    judge_house(house)
    judge_line(house, line)
    judge_lot(house, lot)
    return shares(house, lot, _unlike(house, line))


def _least_lots(lots):
    """The lots that have no other one of these within; those with fewer switches come first."""
    known = []
    for lot in lots:
        if not any(all(s in lot for s in other) for other in known):
            known.append(lot)
    return tuple(known)


def sharing_lots(house, unlike):
    """The lots that share a switch with each of those with these numbers, and have no other such one within."""
    return _least_lots([lot for lot in all_lots(house[1]) if shares(house, lot, unlike)])


def least_unlike(house, unlike):
    """The lots with these numbers that have no other one within."""
    return _least_lots([lot for lot in all_lots(house[1]) if number_of(house[1], lot) in unlike])


def enough_lots(house, line):
    """The lots that are enough and have no other one within."""
    judge_house(house)
    judge_line(house, line)
    return sharing_lots(house, _unlike(house, line))


def differences(house, line):
    """The differences that have no other one within."""
    judge_house(house)
    judge_line(house, line)
    return least_unlike(house, _unlike(house, line))


def least_with(house, line, lot):
    """The least of the lines alike the line in which only switches of the lot stand."""
    judge_house(house)
    judge_line(house, line)
    judge_lot(house, lot)
    if not shares(house, lot, _unlike(house, line)):
        raise NotEnough("the lot of switches is not enough for the line")
    forest = Forest()
    numbers = let_numbers(house)
    seen = {}
    for number, tree in zip(numbers, forest.built(house[1], line, numbers)):
        # Settings that are alike at the lot are one setting of its switches alone.
        alike = [s for s in setting_of(house[1], number) if s in lot]
        seen[number_of(lot, alike)] = tree
    fewer = sorted(seen)
    return least_line(forest, lot, fewer, [seen[number] for number in fewer])

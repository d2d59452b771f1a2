"""Told builds put back into a line."""

from manybuilds.conditions import judge_condition, judge_house
from manybuilds.lines import judge_line
from manybuilds.masks import condition_mask
from manybuilds.searching import least_line
from manybuilds.telling import Offering, judge_told


def least_way(house, line, told):
    """The line that is ahead of all others whose build is an offer for each let setting."""
    judge_house(house)
    judge_line(house, line)
    judge_told(house, told)
    offering = Offering(house, line, told)
    row = [offering.offers_for(number) for number in offering.numbers]
    return least_line(offering.forest, house[1], offering.numbers, row)


def put(house, line, told, condition):
    """The least line with the told builds, the others edited just where the condition holds."""
    judge_house(house)
    judge_line(house, line)
    judge_told(house, told)
    judge_condition(house, condition)
    offering = Offering(house, line, told)
    held = condition_mask(house[1], condition)
    row = []
    for number in offering.numbers:
        if number in offering.told:
            row.append(offering.told[number])
        elif held >> number & 1:
            row.append(offering.patched_at((), offering.roots[number]))
        else:
            row.append(offering.roots[number])
    return least_line(offering.forest, house[1], offering.numbers, row)

"""The order of lines, and least lines."""

from manybuilds.conditions import judge_house, let_numbers
from manybuilds.forest import Forest
from manybuilds.lines import judge_line
from manybuilds.searching import least_line
from manybuilds.trees import order_key


def is_ahead(house, one, other):
    """Whether the first line is ahead of the second one."""
    judge_house(house)
    judge_line(house, one)
    judge_line(house, other)
    return order_key(house[1], one) < order_key(house[1], other)


def least(house, line):
    """The line that is ahead of all others with equal builds for all let settings."""
    judge_house(house)
    judge_line(house, line)
    forest = Forest()
    numbers = let_numbers(house)
    return least_line(forest, house[1], numbers, forest.built(house[1], line, numbers))

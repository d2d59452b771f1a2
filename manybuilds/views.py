"""Views of the builds of some settings, and views put back."""

from manybuilds.conditions import judge_condition, judge_house, let_mask, let_numbers
from manybuilds.forest import Forest
from manybuilds.lines import judge_line
from manybuilds.masks import condition_mask, numbers_in
from manybuilds.searching import least_line


def view(house, line, condition):
    """The line ahead of all others with the builds of the line where the condition holds."""
    judge_house(house)
    judge_line(house, line)
    judge_condition(house, condition)
    numbers = numbers_in(condition_mask(house[1], condition) & let_mask(house))
    forest = Forest()
    return least_line(forest, house[1], numbers, forest.built(house[1], line, numbers))


def put_back(house, line, condition, part):
    """The least line with the builds of the part where the condition holds, and of the line elsewhere."""
    judge_house(house)
    judge_line(house, line)
    judge_condition(house, condition)
    judge_line(house, part)
    held = condition_mask(house[1], condition)
    numbers = let_numbers(house)
    forest = Forest()
    parts = forest.built(house[1], part, numbers)
    others = forest.built(house[1], line, numbers)
    row = [mine if held >> number & 1 else yours for number, mine, yours in zip(numbers, parts, others)]
    return least_line(forest, house[1], numbers, row)

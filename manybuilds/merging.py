"""All builds of lines merged."""

from manybuilds.conditions import judge_house, let_numbers, where
from manybuilds.errors import Clashing
from manybuilds.forest import Forest
from manybuilds.lines import built, judge_line
from manybuilds.masks import setting_of
from manybuilds.patching import clash_path, edit_between, merged_edits
from manybuilds.searching import least_line


def _judge(house, base, one, other):
    """Refuse what is no house or no line of it."""
    judge_house(house)
    judge_line(house, base)
    judge_line(house, one)
    judge_line(house, other)


def _edits(house, base, one, other, number):
    """The build of the base for the setting with this number, and the edits to those of the two."""
    setting = setting_of(house[1], number)
    root = built(house, base, setting)
    mine = edit_between((), root, built(house, one, setting))
    yours = edit_between((), root, built(house, other, setting))
    return root, mine, yours


def _clashing(house, base, one, other):
    """The numbers of the let settings for which the builds cannot be merged, ascending."""
    clashing = []
    for number in let_numbers(house):
        _, mine, yours = _edits(house, base, one, other, number)
        if clash_path(mine, yours) is not None:
            clashing.append(number)
    return clashing


def clashes(house, base, one, other):
    """The condition of the let settings for which the builds cannot be merged."""
    _judge(house, base, one, other)
    return where(house, _clashing(house, base, one, other))


def merged(house, base, one, other):
    """The least line whose builds are those of the lines merged."""
    _judge(house, base, one, other)
    clashing = _clashing(house, base, one, other)
    if clashing:
        raise Clashing(setting_of(house[1], clashing[0]))
    forest = Forest()
    numbers = let_numbers(house)
    row = []
    for number in numbers:
        root, mine, yours = _edits(house, base, one, other, number)
        row.append(forest.planted(merged_edits(root, mine, yours)))
    return least_line(forest, house[1], numbers, row)

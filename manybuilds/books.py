"""What all builds show when they are run, and what each node is worth in which settings."""

from manybuilds.conditions import judge_house, let_numbers, where
from manybuilds.lines import judge_line
from manybuilds.masks import plain_condition, setting_of
from manybuilds.running import Run
from manybuilds.trees import part_indexes


def runs_of(house, line):
    """By the number of each let setting, ascending, the run of its build."""
    return {number: Run(line, setting_of(house[1], number)) for number in let_numbers(house)}


def results_of(house, line):
    """By the number of each let setting, ascending, the result of the run of its build."""
    return {number: one.result() for number, one in runs_of(house, line).items()}


def masks_by_thing(things):
    """The masks of the settings that have each thing, by the first of each; things has some by ascending numbers."""
    masks = {}
    for number, thing in things.items():
        masks[thing] = masks.get(thing, 0) | 1 << number
    return masks


def _row(house, things):
    """The row of the things, which are by the ascending numbers of settings."""
    return tuple([(thing, plain_condition(house[1], mask)) for thing, mask in masks_by_thing(things).items()])


def nodes_with_paths(line):
    """All nodes with their paths, each ahead of its parts."""
    pairs = []
    todo = [((), line)]
    while todo:
        path, node = todo.pop()
        pairs.append((path, node))
        todo.extend([(path + (index,), node[index]) for index in reversed(part_indexes(node))])
    return pairs


def book(house, line):
    """The row of the worths of each node of the line."""
    judge_house(house)
    judge_line(house, line)
    runs = runs_of(house, line)
    told = []
    for path, _ in nodes_with_paths(line):
        worths = {number: one.worths[path] for number, one in runs.items() if path in one.worths}
        told.append((path, _row(house, worths)))
    return tuple(told)


def shows(house, line):
    """The row of the results of the builds' runs."""
    judge_house(house)
    judge_line(house, line)
    return _row(house, results_of(house, line))


def shows_where(house, one, other):
    """The condition of the let settings whose builds of the two have the same result."""
    judge_house(house)
    judge_line(house, one)
    judge_line(house, other)
    mine = results_of(house, one)
    yours = results_of(house, other)
    return where(house, [number for number in mine if mine[number] == yours[number]])

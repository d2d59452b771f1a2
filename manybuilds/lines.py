"""Expressions, lines and their builds."""

from manybuilds.conditions import judge_house, judge_setting, let_mask, let_numbers, where
from manybuilds.cubes import judge_cube
from manybuilds.errors import BadExpression, BadLine, BadPath
from manybuilds.forest import Forest
from manybuilds.masks import plain_condition, switch_bit, switch_mask
from manybuilds.trees import is_part_index, is_tree, label_of, parts_of


def is_expression(thing):
    """Whether any value is an expression."""
    return is_tree(thing, ())


def is_line(house, thing):
    """Whether any value is a line of the house."""
    judge_house(house)
    return is_tree(thing, house[1])


def judge_expression(expression):
    """Refuse what is no expression."""
    if not is_tree(expression, ()):
        raise BadExpression("this is no expression")


def judge_line(house, line):
    """Refuse what is no line of the house."""
    if not is_tree(line, house[1]):
        raise BadLine("this is no line of the house")


def made(line, on, off):
    """The line with the choices of the switches that are on or off made so, and no others."""
    if line[0] == "choice" and line[1] in on:
        return made(line[2], on, off)
    if line[0] == "choice" and line[1] in off:
        return made(line[3], on, off)
    return label_of(line) + tuple([made(part, on, off) for part in parts_of(line)])


def built(house, line, setting):
    """The build for the setting, of what was judged."""
    return made(line, setting, [s for s in house[1] if s not in setting])


def decided(switches, trees):
    """A line whose build is, for each setting with one of these numbers, the tree that the dict has for it."""
    known = list(trees.values())
    if known.count(known[0]) == len(known):
        return known[0]
    bit = switch_bit(switches, switches[0])
    ons = {number ^ bit: tree for number, tree in trees.items() if number & bit}
    offs = {number: tree for number, tree in trees.items() if not number & bit}
    if not ons or not offs:
        return decided(switches[1:], ons or offs)
    return ("choice", switches[0], decided(switches[1:], ons), decided(switches[1:], offs))


def build(house, line, setting):
    """The build of the line for the setting, let or not."""
    judge_house(house)
    judge_line(house, line)
    judge_setting(house, setting)
    return built(house, line, setting)


def chosen(house, line, cube):
    """The line in which just the choices of the cube's switches are made."""
    judge_house(house)
    judge_line(house, line)
    judge_cube(house, cube)
    return made(line, cube[0], cube[1])


def _like_numbers(house, one, other):
    """The numbers of the let settings for which the builds are equal."""
    judge_house(house)
    judge_line(house, one)
    judge_line(house, other)
    numbers = let_numbers(house)
    forest = Forest()
    ones = forest.built(house[1], one, numbers)
    others = forest.built(house[1], other, numbers)
    return [number for number, mine, yours in zip(numbers, ones, others) if mine == yours]


def same_where(house, one, other):
    """The condition of the let settings for which the builds of the two are equal."""
    return where(house, _like_numbers(house, one, other))


def same_builds(house, one, other):
    """Whether the builds of the two are equal for all let settings."""
    return len(_like_numbers(house, one, other)) == len(let_numbers(house))


def builds(house, line):
    """The unlike builds for let settings, each with its condition."""
    judge_house(house)
    judge_line(house, line)
    numbers = let_numbers(house)
    forest = Forest()
    lots = {}
    for number, tree in zip(numbers, forest.built(house[1], line, numbers)):
        lots.setdefault(tree, []).append(number)
    return tuple([(forest.tree(tree), where(house, lot)) for tree, lot in lots.items()])


def comers(house, line, path):
    """The mask of the let settings that come to the path, or None if it leads to no node."""
    if not isinstance(path, tuple):
        return None
    mask = let_mask(house)
    node = line
    for index in path:
        if not is_part_index(node, index):
            return None
        if node[0] == "choice":
            on = switch_mask(house[1], node[1])
            mask &= on if index == 2 else ~on
        node = node[index]
    return mask


def stands(house, line, path):
    """The condition of the let settings in whose build the node at the path is picked."""
    judge_house(house)
    judge_line(house, line)
    mask = comers(house, line, path)
    if mask is None:
        raise BadPath("this leads to no node of the line")
    return plain_condition(house[1], mask)

"""Moves, and the way from one line to another one."""

from manybuilds.conditions import is_switch, judge_house, let_numbers
from manybuilds.errors import BadMove, NotAlike
from manybuilds.lines import comers, judge_line, same_builds
from manybuilds.masks import switch_bit, switch_mask
from manybuilds.trees import is_tree, label_of, node_at, part_indexes, with_node

# How many items a move has, by its tag.
LENGTHS = {"double": 3, "merge": 2, "settle": 3, "grow": 5}


def moved(house, line, move):
    """The line behind the move."""
    judge_house(house)
    judge_line(house, line)
    node = _node_behind(house, line, move)
    if node is None:
        raise BadMove("this is no move of the line")
    return with_node(line, move[1], node)


def _node_behind(house, line, move):
    """What becomes of the node to which the move leads, or None for any value that is no move."""
    if not isinstance(move, tuple) or len(move) < 2:
        return None
    tag, path = move[0], move[1]
    if not isinstance(tag, str) or tag not in LENGTHS or len(move) != LENGTHS[tag]:
        return None
    come = comers(house, line, path)
    if come is None:
        return None
    node = node_at(line, path)
    if tag == "double":
        return ("choice", move[2], node, node) if is_switch(house[1], move[2]) else None
    if tag == "merge":
        return node[2] if node[0] == "choice" and node[2] == node[3] else None
    if tag == "settle":
        return _settled(house, node, move[2], come)
    return _grown(house, node, move, come)


def _is_sided(house, s, side, come):
    """Whether the switch is on this side in all settings of the mask; any value may be the side."""
    if not isinstance(side, str) or side not in ("on", "off"):
        return False
    on = switch_mask(house[1], s)
    return come & ~on == 0 if side == "on" else come & on == 0


def _settled(house, node, side, come):
    """The part of a choice that all settings that come to it pick."""
    if node[0] != "choice" or not _is_sided(house, node[1], side, come):
        return None
    return node[2] if side == "on" else node[3]


def _grown(house, node, move, come):
    """The choice between the node and a line that no setting that comes to it picks."""
    _, _, s, side, line = move
    if not is_switch(house[1], s) or not _is_sided(house, s, side, come) or not is_tree(line, house[1]):
        return None
    return ("choice", s, node, line) if side == "on" else ("choice", s, line, node)


def way(house, one, other):
    """Moves that lead from the one line to the other one."""
    judge_house(house)
    judge_line(house, one)
    judge_line(house, other)
    if not same_builds(house, one, other):
        raise NotAlike("the lines are not alike")
    moves = []
    todo = [("lead", (), one, other, let_numbers(house))]
    while todo:
        task = todo.pop()
        if task[0] == "lead":
            todo.extend(_steps(house[1], task)[::-1])
        else:
            moves.append(task)
    return tuple(moves)


def _steps(switches, task):
    """The moves and lesser tasks by which a task is done, in order.

    A task leads from one line to another one at a path, for the settings that
    come to it: their builds of the two are equal.
    """
    _, path, one, other, numbers = task
    if one == other:
        return []
    if not numbers:
        return [("grow", path, switches[0], "on", other), ("settle", path, "off")]
    if other[0] == "choice":
        return _steps_to_choice(switches, task)
    if one[0] == "choice":
        return _steps_from_choice(switches, task)
    return [("lead", path + (index,), one[index], other[index], numbers) for index in part_indexes(one)]


def _sides(switches, s, numbers):
    """The numbers of the settings with the switch on, and of those with it off."""
    bit = switch_bit(switches, s)
    return [number for number in numbers if number & bit], [number for number in numbers if not number & bit]


def _steps_to_choice(switches, task):
    """The same as steps, to a choice."""
    _, path, one, other, numbers = task
    s = other[1]
    ons, offs = _sides(switches, s, numbers)
    if not offs:
        return [("lead", path, one, other[2], numbers), ("grow", path, s, "on", other[3])]
    if not ons:
        return [("lead", path, one, other[3], numbers), ("grow", path, s, "off", other[2])]
    if label_of(one) == label_of(other):
        steps, on, off = [], one[2], one[3]
    else:
        steps, on, off = [("double", path, s)], one, one
    return steps + [("lead", path + (2,), on, other[2], ons), ("lead", path + (3,), off, other[3], offs)]


def _steps_from_choice(switches, task):
    """The same as steps, from a choice to another node."""
    _, path, one, other, numbers = task
    ons, offs = _sides(switches, one[1], numbers)
    if not offs:
        return [("settle", path, "on"), ("lead", path, one[2], other, numbers)]
    if not ons:
        return [("settle", path, "off"), ("lead", path, one[3], other, numbers)]
    return [("lead", path + (2,), one[2], other, ons), ("lead", path + (3,), one[3], other, offs), ("merge", path)]

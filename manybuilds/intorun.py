"""Switches that are moved into the run: what a choice picked is asked for by a name."""

from manybuilds.books import nodes_with_paths
from manybuilds.conditions import judge_house, judge_setting
from manybuilds.enough import judge_lot
from manybuilds.errors import BadNames, Caught
from manybuilds.lines import judge_line
from manybuilds.trees import label_of, parts_of
from manybuilds.words import fresh_names, is_name


def _moved(line, names):
    """The line with an if of a name in the place of each choice of a switch that has one."""
    parts = tuple([_moved(part, names) for part in parts_of(line)])
    if line[0] == "choice" and line[1] in names:
        return ("if", ("name", names[line[1]])) + parts
    return label_of(line) + parts


def moved_in(house, line, lot):
    """New names, one for each switch of the lot, and the line that asks for these in the place of the switches."""
    judge_house(house)
    judge_line(house, line)
    judge_lot(house, lot)
    taken = [node[1] for _, node in nodes_with_paths(line) if node[0] in ("name", "let", "set")]
    names = fresh_names(taken + list(house[1]), len(lot))
    return (tuple(names), _moved(line, dict(zip(lot, names))))


def _judge_names(lot, names):
    """Refuse what is no tuple of different names, one for each switch of the lot."""
    if not isinstance(names, tuple) or not all(is_name(name) for name in names):
        raise BadNames("this is no tuple of names")
    if len(names) != len(lot) or len(set(names)) != len(names):
        raise BadNames("the names are not different, or not one for each switch")


def answered(house, lot, names, setting, line):
    """The line within lets of the names, each with the truth whether its switch is on in the setting."""
    judge_house(house)
    judge_lot(house, lot)
    _judge_names(lot, names)
    judge_setting(house, setting)
    judge_line(house, line)
    told = line
    for s, name in reversed(list(zip(lot, names))):
        told = ("let", name, ("truth", "yes" if s in setting else "no"), told)
    return told


def _caught_path(line, names):
    """The path of the first node that asks for a name otherwise than at the head of an if, or takes it; or None."""
    heads = []
    for path, node in nodes_with_paths(line):
        if node[0] in ("let", "set", "name") and node[1] in names and path not in heads:
            return path
        if node[0] == "if" and node[1][0] == "name":
            heads.append(path + (1,))
    return None


def _lifted(line, switches):
    """The line with a choice in the place of each if of a name that has a switch."""
    if line[0] == "if" and line[1][0] == "name" and line[1][1] in switches:
        return ("choice", switches[line[1][1]], _lifted(line[2], switches), _lifted(line[3], switches))
    return label_of(line) + tuple([_lifted(part, switches) for part in parts_of(line)])


def lifted(house, lot, names, line):
    """The line with a choice of its switch in the place of each if of one of the names."""
    judge_house(house)
    judge_lot(house, lot)
    _judge_names(lot, names)
    judge_line(house, line)
    path = _caught_path(line, names)
    if path is not None:
        raise Caught(path)
    return _lifted(line, dict(zip(names, lot)))

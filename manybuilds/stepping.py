"""Switches that are retired, or joined with others."""

from manybuilds.conditions import is_lot, is_switch, judge_house, let_mask, let_numbers, where
from manybuilds.errors import BadSetting, BadStep, LastSwitch
from manybuilds.forest import Forest
from manybuilds.lines import judge_line
from manybuilds.masks import mask_of, number_of, plain_condition, setting_of
from manybuilds.trees import label_of, parts_of


def _is_step(house, thing):
    """Whether any value is a step of the house."""
    if not isinstance(thing, tuple) or not all(isinstance(word, str) for word in thing):
        return False
    if len(thing) == 3:
        return thing[0] == "retire" and is_switch(house[1], thing[1]) and thing[2] in ("on", "off")
    if len(thing) != 4 or thing[0] != "join" or thing[3] not in ("as", "against"):
        return False
    return is_switch(house[1], thing[1]) and is_switch(house[1], thing[2]) and thing[1] != thing[2]


def is_step(house, thing):
    """Whether any value is a step of the house."""
    judge_house(house)
    return _is_step(house, thing)


def _judge_step(house, step):
    """Refuse what is no step, and any for a house with but one switch."""
    if not _is_step(house, step):
        raise BadStep("this is no step of the house")
    if len(house[1]) == 1:
        raise LastSwitch("the house has no other switch")


def _others(house, step):
    """The switches of the house without the one that goes."""
    return tuple([s for s in house[1] if s != step[1]])


def _is_on(step, setting):
    """Whether the switch that goes is on in the old setting of a new one."""
    if step[0] == "retire":
        return step[2] == "on"
    return (step[2] in setting) == (step[3] == "as")


def _old_setting(house, step, setting):
    """The setting of the house for which the new one stands."""
    return tuple([s for s in house[1] if s in setting or s == step[1] and _is_on(step, setting)])


def _stepped(step, line):
    """The line without choices of the switch that goes."""
    if line[0] != "choice" or line[1] != step[1]:
        return label_of(line) + tuple([_stepped(step, part) for part in parts_of(line)])
    if step[0] == "retire":
        return _stepped(step, line[2] if step[2] == "on" else line[3])
    parts = [_stepped(step, part) for part in parts_of(line)]
    return ("choice", step[2]) + tuple(parts if step[3] == "as" else parts[::-1])


def _after(house, line, step):
    """The new house and the new line."""
    switches = _others(house, step)
    let = let_mask(house)
    numbers = []
    for number in range(1 << len(switches)):
        old = _old_setting(house, step, setting_of(switches, number))
        if let >> number_of(house[1], old) & 1:
            numbers.append(number)
    return (("house", switches, plain_condition(switches, mask_of(numbers))), _stepped(step, line))


def after(house, line, step):
    """The house and the line without the switch that goes."""
    judge_house(house)
    judge_line(house, line)
    _judge_step(house, step)
    return _after(house, line, step)


def back(house, step, setting):
    """The setting of the house for which a setting of the new switches stands."""
    judge_house(house)
    _judge_step(house, step)
    if not is_lot(_others(house, step), setting):
        raise BadSetting("this is no setting of the new switches")
    return _old_setting(house, step, setting)


def lost(house, line, step):
    """The condition of the let settings whose builds the new house and line do not have."""
    judge_house(house)
    judge_line(house, line)
    _judge_step(house, step)
    new_house, new_line = _after(house, line, step)
    forest = Forest()
    kept = forest.built(new_house[1], new_line, let_numbers(new_house))
    numbers = let_numbers(house)
    trees = forest.built(house[1], line, numbers)
    return where(house, [number for number, tree in zip(numbers, trees) if tree not in kept])

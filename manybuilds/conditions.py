"""Houses, their settings, and conditions over their switches."""

from manybuilds.errors import BadCondition, BadHouse, BadSetting, BadSwitch
from manybuilds.masks import condition_mask, mask_of, number_of, numbers_in, plain_condition, setting_of, switch_mask
from manybuilds.words import is_name

# How many items a condition has, by its tag.
LENGTHS = {"yes": 1, "no": 1, "is": 2, "not": 2, "and": 3, "or": 3, "split": 4}


def is_switch(switches, thing):
    """Whether any value is one of the switches."""
    return isinstance(thing, str) and thing in switches


def is_lot(switches, thing):
    """Whether any value is a tuple of different switches in the order of the house."""
    if not isinstance(thing, tuple):
        return False
    if not all(is_switch(switches, s) for s in thing):
        return False
    places = [switches.index(s) for s in thing]
    return all(one < other for one, other in zip(places, places[1:]))


def is_condition_over(switches, thing):
    """Whether any value is a condition over these switches."""
    if not isinstance(thing, tuple) or not thing:
        return False
    tag = thing[0]
    if not isinstance(tag, str) or tag not in LENGTHS or len(thing) != LENGTHS[tag]:
        return False
    inner = thing[1:]
    if tag in ("is", "split"):
        if not is_switch(switches, thing[1]):
            return False
        inner = thing[2:]
    return all(is_condition_over(switches, part) for part in inner)


def is_house(thing):
    """Whether any value is a house."""
    if not isinstance(thing, tuple) or len(thing) != 3:
        return False
    tag, switches, rule = thing
    if not isinstance(tag, str) or tag != "house":
        return False
    if not isinstance(switches, tuple) or not 1 <= len(switches) <= 7:
        return False
    if not all(is_name(s) for s in switches):
        return False
    if len(set(switches)) != len(switches):
        return False
    return is_condition_over(switches, rule)


def judge_house(house):
    """Refuse what is no house."""
    if not is_house(house):
        raise BadHouse("this is no house")


def judge_condition(house, condition):
    """Refuse what is no condition of the house."""
    if not is_condition_over(house[1], condition):
        raise BadCondition("this is no condition over the switches of the house")


def judge_setting(house, setting):
    """Refuse what is no setting of the house, let or not."""
    if not is_lot(house[1], setting):
        raise BadSetting("this is no setting of the house")


def is_let(house, thing):
    """Whether any value is a let setting of the house."""
    return is_lot(house[1], thing) and let_mask(house) >> number_of(house[1], thing) & 1 == 1


def judge_let(house, setting):
    """Refuse what is no let setting of the house."""
    if not is_let(house, setting):
        raise BadSetting("this is no let setting of the house")


def let_mask(house):
    """The mask of the let settings."""
    return condition_mask(house[1], house[2])


def let_numbers(house):
    """The numbers of the let settings, ascending."""
    return numbers_in(let_mask(house))


def where(house, numbers):
    """The plain condition that holds for just the settings with these numbers."""
    return plain_condition(house[1], mask_of(numbers))


def is_setting(house, thing):
    """Whether any value is a setting of the house, let or not."""
    judge_house(house)
    return is_lot(house[1], thing)


def settings(house):
    """The tuple of the let settings, in their order."""
    judge_house(house)
    return tuple([setting_of(house[1], number) for number in let_numbers(house)])


def is_condition(house, thing):
    """Whether any value is a condition over the switches of the house."""
    judge_house(house)
    return is_condition_over(house[1], thing)


def holds(house, condition, setting):
    """Whether the condition holds for the setting."""
    judge_house(house)
    judge_condition(house, condition)
    judge_setting(house, setting)
    return condition_mask(house[1], condition) >> number_of(house[1], setting) & 1 == 1


def plain(house, condition):
    """The plain condition that holds for the same settings, let or not."""
    judge_house(house)
    judge_condition(house, condition)
    return plain_condition(house[1], condition_mask(house[1], condition))


def within(house, condition):
    """The plain condition that holds for just the let settings for which this one holds."""
    judge_house(house)
    judge_condition(house, condition)
    return plain_condition(house[1], condition_mask(house[1], condition) & let_mask(house))


def _held(house, condition):
    """The let settings for which the condition holds, in their order."""
    judge_house(house)
    judge_condition(house, condition)
    numbers = numbers_in(condition_mask(house[1], condition) & let_mask(house))
    return [setting_of(house[1], number) for number in numbers]


def least_setting(house, condition):
    """The first of the let settings with the fewest switches on for which it holds, or None."""
    return min(_held(house, condition), key=len, default=None)


def how_many(house, condition):
    """For how many let settings the condition holds."""
    return len(_held(house, condition))


def fate(house, s):
    """How all let settings have the switch: "on", "off", "free", or "none" without a let setting."""
    judge_house(house)
    if not is_switch(house[1], s):
        raise BadSwitch("this is no switch of the house")
    let = let_mask(house)
    on = let & switch_mask(house[1], s)
    if not let:
        return "none"
    if on == let:
        return "on"
    return "free" if on else "off"

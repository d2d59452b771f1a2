"""Cubes, and the reasons and bans of conditions."""

from manybuilds.conditions import is_lot, judge_condition, judge_house, let_mask
from manybuilds.errors import BadCube, TooMany
from manybuilds.masks import condition_mask, corners, cube_mask, numbers_in, setting_of, spreads

MOST = 200


def is_cube(house, thing):
    """Whether any value is a cube of the house."""
    if not isinstance(thing, tuple) or len(thing) != 2:
        return False
    on, off = thing
    if not is_lot(house[1], on) or not is_lot(house[1], off):
        return False
    return not any(s in off for s in on)


def judge_cube(house, cube):
    """Refuse what is no cube of the house."""
    if not is_cube(house, cube):
        raise BadCube("this is no cube of the house")


def cube_key(switches, cube):
    """The key by which cubes are put in order."""
    on, off = [tuple([switches.index(s) for s in side]) for side in cube]
    return (len(on) + len(off), on, off)


def wider_cubes(cube):
    """The cubes that lack just one switch of this one."""
    on, off = cube
    wider = [(tuple([s for s in on if s != lost]), off) for lost in on]
    return wider + [(on, tuple([s for s in off if s != lost])) for lost in off]


def _vouches(switches, let, held, cube):
    """Whether let settings lie in the cube and the condition holds for all of them."""
    inside = cube_mask(switches, cube) & let
    return inside != 0 and inside & ~held == 0


def _is_reason(switches, let, held, cube):
    """Whether the cube is a reason for the condition that holds for the settings of the mask held."""
    if not _vouches(switches, let, held, cube):
        return False
    return not any(_vouches(switches, let, held, wide) for wide in wider_cubes(cube))


def least_cubes(switches, vouching):
    """The cubes that vouch, and cease to without any one of their switches, in order.

    vouching has, by the number of each lot of switches that a cube may leave
    free, the mask of the settings whose cubes vouch then.
    """
    bits = [1 << at for at in range(len(switches))]
    found = []
    for free, corner in enumerate(corners(switches)):
        # One setting tells a cube: the one in which all free switches are off.
        mask = vouching[free] & corner
        for bit in bits:
            if not free & bit:
                mask &= ~vouching[free | bit]
        found.extend([_cube_at(switches, free, number) for number in numbers_in(mask)])
    return sorted(found, key=lambda cube: cube_key(switches, cube))


def _cube_at(switches, free, number):
    """The cube of all switches but the free ones in which the setting with this number lies."""
    return (setting_of(switches, number & ~free), setting_of(switches, ~number & ~free))


def _reasons(house, held):
    """All reasons for the condition that holds for the settings of the mask, in order; TooMany."""
    switches = house[1]
    let = let_mask(house)
    inside = spreads(switches, let)
    against = spreads(switches, let & ~held)
    found = least_cubes(switches, [one & ~other for one, other in zip(inside, against)])
    if len(found) > MOST:
        raise TooMany(MOST)
    return tuple(found)


def reasons(house, condition):
    """All reasons for the condition, in their order."""
    judge_house(house)
    judge_condition(house, condition)
    return _reasons(house, condition_mask(house[1], condition))


def is_reason(house, condition, thing):
    """Whether any value is a reason for the condition."""
    judge_house(house)
    judge_condition(house, condition)
    if not is_cube(house, thing):
        return False
    return _is_reason(house[1], let_mask(house), condition_mask(house[1], condition), thing)


def bans(house, condition):
    """All reasons for the opposite of the condition."""
    judge_house(house)
    judge_condition(house, condition)
    return _reasons(house, ~condition_mask(house[1], condition))

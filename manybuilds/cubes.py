"""Cubes, and the reasons and bans of conditions."""

from manybuilds.conditions import is_lot, judge_condition, judge_house, let_mask
from manybuilds.errors import BadCube, TooMany
from manybuilds.masks import condition_mask, cube_mask

MOST = 200


def is_cube(house, thing):
    """Whether any value is a cube of the house."""
    if not isinstance(thing, tuple) or len(thing) != 2:
        return False
    on, off = thing
    if not is_lot(house[1], on) or not is_lot(house[1], off):
        return False
    return not any(s in off for s in on)


def judge_cube(house, cube):
    """Refuse what is no cube of the house."""
    if not is_cube(house, cube):
        raise BadCube("this is no cube of the house")


def all_cubes(switches):
    """All cubes: by how many switches they have, then on, then off, by the indexes of switches."""
    cubes = [((), ())]
    for s in switches:
        with_on = [(on + (s,), off) for on, off in cubes]
        with_off = [(on, off + (s,)) for on, off in cubes]
        cubes = cubes + with_on + with_off
    return sorted(cubes, key=lambda cube: cube_key(switches, cube))


def cube_key(switches, cube):
    """The key by which cubes are put in order."""
    on, off = [tuple([switches.index(s) for s in side]) for side in cube]
    return (len(on) + len(off), on, off)


def wider_cubes(cube):
    """The cubes that lack just one switch of this one."""
    on, off = cube
    wider = [(tuple([s for s in on if s != lost]), off) for lost in on]
    return wider + [(on, tuple([s for s in off if s != lost])) for lost in off]


def _vouches(switches, let, held, cube):
    """Whether let settings lie in the cube and the condition holds for all of them."""
    inside = cube_mask(switches, cube) & let
    return inside != 0 and inside & ~held == 0


def _is_reason(switches, let, held, cube):
    """Whether the cube is a reason for the condition that holds for the settings of the mask held."""
    if not _vouches(switches, let, held, cube):
        return False
    return not any(_vouches(switches, let, held, wide) for wide in wider_cubes(cube))


def reasons(house, condition):
    """All reasons for the condition, in their order."""
    judge_house(house)
    judge_condition(house, condition)
    switches = house[1]
    let = let_mask(house)
    held = condition_mask(switches, condition)
    found = [cube for cube in all_cubes(switches) if _is_reason(switches, let, held, cube)]
    if len(found) > MOST:
        raise TooMany(MOST)
    return tuple(found)


def is_reason(house, condition, thing):
    """Whether any value is a reason for the condition."""
    judge_house(house)
    judge_condition(house, condition)
    if not is_cube(house, thing):
        return False
    return _is_reason(house[1], let_mask(house), condition_mask(house[1], condition), thing)


def bans(house, condition):
    """All reasons for the opposite of the condition."""
    judge_house(house)
    judge_condition(house, condition)
    return reasons(house, ("not", condition))

"""Fences: what shows that no few askings tell what is shown."""

from itertools import combinations

from manybuilds.askings import asker_of
from manybuilds.cubes import cube_key, is_cube
from manybuilds.enough import all_lots
from manybuilds.errors import BadNumber
from manybuilds.masks import cube_mask
from manybuilds.trees import is_number

MOST = 7


def _judge_height(most):
    """Refuse what is no number from 0 to 7."""
    if not is_number(most) or not 0 <= most <= MOST:
        raise BadNumber("this is no number from 0 to 7")


def _size(cube):
    """How many switches the cube has."""
    return len(cube[0]) + len(cube[1])


def _with_switch(switches, cube, s):
    """The two cubes that have the switch besides."""
    on, off = cube
    return (
        (tuple([t for t in switches if t in on or t == s]), off),
        (on, tuple([t for t in switches if t in off or t == s])))


def _is_fenced(asker, cubes, most, cube):
    """Whether the cube may be one of these cubes of a fence."""
    mask = cube_mask(asker.switches, cube) & asker.let
    if not mask or asker.shown(mask) is not None:
        return False
    if _size(cube) == most:
        return True
    for s, _ in asker.partings(mask):
        one, other = _with_switch(asker.switches, cube, s)
        if one not in cubes and other not in cubes:
            return False
    return True


def is_fence(house, line, most, thing):
    """Whether any value is a fence of this height."""
    asker = asker_of(house, line)
    _judge_height(most)
    if not isinstance(thing, tuple) or not all(is_cube(house, cube) for cube in thing):
        return False
    cubes = {cube: True for cube in thing}
    if len(cubes) != len(thing) or ((), ()) not in cubes:
        return False
    return all(_size(cube) <= most and _is_fenced(asker, cubes, most, cube) for cube in thing)


def _cubes(switches, most):
    """All cubes of at most so many switches."""
    cubes = []
    for lot in all_lots(switches):
        if len(lot) <= most:
            for size in range(len(lot) + 1):
                cubes.extend([(on, tuple([s for s in lot if s not in on])) for on in combinations(list(lot), size)])
    return cubes


def fence(house, line, most):
    """All cubes of fences of this height, in order, or None if there is no fence."""
    asker = asker_of(house, line)
    _judge_height(most)
    if not asker.let or asker.depth(asker.let) <= most:
        return None
    found = []
    for cube in _cubes(house[1], most):
        mask = cube_mask(house[1], cube) & asker.let
        # A cube is fenced just if the askings that are left are too few for it.
        if mask and asker.depth(mask) > most - _size(cube):
            found.append(cube)
    return tuple(sorted(found, key=lambda cube: cube_key(house[1], cube)))

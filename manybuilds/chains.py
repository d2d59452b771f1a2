"""Chains of ties from numbers to truths, and on which switches they hang."""

from manybuilds.conditions import let_mask
from manybuilds.cubes import is_cube, least_cubes, wider_cubes
from manybuilds.errors import BadCube
from manybuilds.masks import cube_mask, spreads
from manybuilds.ties import web_of


def clash_cubes(house, line):
    """The cubes of let settings in all of which there are like ties that make a chain, in order."""
    web = web_of(house, line)
    let = let_mask(house)
    inside = spreads(house[1], let)
    # Where a tie lacks in some let setting of the cube, by its mask and by what the cube leaves free.
    lacking = {mask: spreads(house[1], let & ~mask) for mask in web.masks}
    vouching = []
    for free, within in enumerate(inside):
        masks = [~lacking[mask][free] for mask in web.masks]
        vouching.append(web.clashing(within, masks))
    return tuple(least_cubes(house[1], vouching))


def _in_all(web, within):
    """For each tie whether it stands in all settings of the mask."""
    return [within & ~mask == 0 for mask in web.masks]


def _chain_in(house, web, cube):
    """The places of a chain of ties that stand in all let settings in the cube, or None without one or a setting."""
    within = cube_mask(house[1], cube) & let_mask(house)
    return web.chain_among(_in_all(web, within)) if within else None


def chain(house, line, cube):
    """A chain of ties that stand in all let settings in the clash cube."""
    web = web_of(house, line)
    places = _chain_in(house, web, cube) if is_cube(house, cube) else None
    if places is None or any(_chain_in(house, web, wide) is not None for wide in wider_cubes(cube)):
        raise BadCube("this is no clash cube of the line")
    return web.ties_at(places)


def is_chain(house, line, cube, thing):
    """Whether any value is a chain of ties that stand in all let settings in the cube."""
    web = web_of(house, line)
    within = cube_mask(house[1], cube) & let_mask(house) if is_cube(house, cube) else 0
    if not within:
        raise BadCube("this is no cube with a let setting in it")
    return web.is_chain(thing, _in_all(web, within))

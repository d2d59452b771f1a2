"""Asking trees: which switches to ask for to know what is shown."""

from manybuilds.books import masks_by_thing, results_of
from manybuilds.conditions import is_switch, judge_house, let_mask
from manybuilds.lines import judge_line
from manybuilds.masks import switch_mask
from manybuilds.trees import is_number


class Asker:
    """What the builds of a line show, and how few askings tell it for the let settings of a cube."""

    def __init__(self, house, line):
        self.switches = house[1]
        self.let = let_mask(house)
        self.held = masks_by_thing(results_of(house, line))
        self.depths = {}

    def shown(self, mask):
        """What all settings of the mask show, or None if they show unlike."""
        for result, held in self.held.items():
            if mask & held:
                return result if mask & ~held == 0 else None
        return None

    def sides(self, s, mask):
        """The settings of the mask that have the switch on, and those that have it off."""
        on = switch_mask(self.switches, s)
        return (mask & on, mask & ~on)

    def partings(self, mask):
        """The switches that part the settings of the mask, with both sides."""
        several = [(s, self.sides(s, mask)) for s in self.switches]
        return [(s, sides) for s, sides in several if sides[0] and sides[1]]

    def depth(self, mask):
        """The least depth of a tree for the settings of the mask."""
        if mask not in self.depths:
            if self.shown(mask) is not None:
                self.depths[mask] = 0
            else:
                self.depths[mask] = min([self._depth_with(sides) for _, sides in self.partings(mask)])
        return self.depths[mask]

    def _depth_with(self, sides):
        """The least depth of a tree that asks for a switch that parts into these sides."""
        return 1 + max(self.depth(sides[0]), self.depth(sides[1]))

    def tree(self, mask):
        """The tree that asks for the first switch with which it has the least depth."""
        result = self.shown(mask)
        if result is not None:
            return ("tells", result)
        for s, sides in self.partings(mask):
            if self._depth_with(sides) == self.depth(mask):
                return ("ask", s, self.tree(sides[0]), self.tree(sides[1]))
        return None

    def is_tree(self, mask, thing):
        """Whether any value is an asking tree that tells each setting of the mask what it shows."""
        if not isinstance(thing, tuple) or not thing or not isinstance(thing[0], str):
            return False
        if thing[0] == "tells" and len(thing) == 2:
            result = self.shown(mask)
            return result is not None and _is_same(thing[1], result)
        if thing[0] != "ask" or len(thing) != 4 or not is_switch(self.switches, thing[1]):
            return False
        on, off = self.sides(thing[1], mask)
        if not on or not off:
            return False
        return self.is_tree(on, thing[2]) and self.is_tree(off, thing[3])


def _is_same(thing, known):
    """Whether any value is the known one of tuples, strings and numbers."""
    if isinstance(known, tuple):
        if not isinstance(thing, tuple) or len(thing) != len(known):
            return False
        return all(_is_same(one, other) for one, other in zip(thing, known))
    if isinstance(known, str):
        return isinstance(thing, str) and thing == known
    return is_number(thing) and thing == known


def asker_of(house, line):
    """The asker of a line, of values that are not yet judged."""
    judge_house(house)
    judge_line(house, line)
    return Asker(house, line)


def is_asking(house, line, thing):
    """Whether any value is an asking tree in which each let setting comes to its result."""
    asker = asker_of(house, line)
    return asker.let != 0 and asker.is_tree(asker.let, thing)


def least_askings(house, line):
    """The least depth of an asking tree, None if the house lets no setting."""
    asker = asker_of(house, line)
    return asker.depth(asker.let) if asker.let else None


def asking(house, line):
    """The asking tree that asks each time for the first switch with which it has the least depth, or None."""
    asker = asker_of(house, line)
    return asker.tree(asker.let) if asker.let else None

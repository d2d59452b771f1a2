"""Which conditions of forks to change so that a text is read for all let settings."""

from manybuilds.conditions import let_mask, let_numbers
from manybuilds.conditiontexts import condition_words
from manybuilds.errors import BadFork, BadLot, TooMany
from manybuilds.forks import forked
from manybuilds.masks import (
    full_mask, mask_of, number_of, numbers_in, plain_condition, setting_of, spreads, switch_mask)
from manybuilds.readings import read_mask
from manybuilds.trees import is_number

MOST = 8


def taken(house, text, fork):
    """The let settings that are read if the fork's condition is taken to hold, and if it is taken not to hold."""
    known = forked(house, text)
    if not is_number(fork) or fork not in known.forks:
        raise BadFork("this is no fork of the text")
    at = known.forks.index(fork)
    full = full_mask(house[1])
    sides = []
    for mask in (full, 0):
        masks = known.masks[:at] + [mask] + known.masks[at + 1:]
        sides.append(plain_condition(house[1], read_mask(known.row_masks(masks, full), let_mask(house))))
    return tuple(sides)


class Trial:
    """All ways to take the conditions of the forks of a text.

    A way is like a setting whose switches are the forks: on if the condition
    is taken to hold.
    """

    def __init__(self, house, known):
        self.forks = tuple(known.forks)
        full = full_mask(self.forks)
        masks = [switch_mask(self.forks, fork) for fork in self.forks]
        read = read_mask(known.row_masks(masks, full), full)
        self.read_ways = numbers_in(read)
        # By the number of each lot of forks: the ways that are read with other conditions in just these rows.
        self.mended = spreads(self.forks, read)
        self.ways = {number: self._own_way(known.masks, number) for number in let_numbers(house)}

    def _own_way(self, masks, number):
        """The number of the way in which the conditions are for the setting with this number."""
        return number_of(self.forks, [fork for fork, mask in zip(self.forks, masks) if mask >> number & 1])

    def frees(self, lot):
        """Whether all let settings can be read with other conditions in the rows of the lot with this number."""
        return mask_of(list(self.ways.values())) & ~self.mended[lot] == 0

    def way_with(self, lot, number):
        """A way that is read, and differs in just the lot, as little as can be, from that of the setting."""
        own = self.ways[number]
        ways = [way for way in self.read_ways if (way ^ own) & ~lot == 0]
        return min(ways, key=lambda way: len(numbers_in(way ^ own)))


def _judge_number(known):
    """Refuse a text of too many forks."""
    if len(known.forks) > MOST:
        raise TooMany(MOST)


def freed(house, text):
    """The least lots of forks with other conditions of which all let settings are read."""
    known = forked(house, text)
    _judge_number(known)
    trial = Trial(house, known)
    lots = []
    for lot in range(1 << len(trial.forks)):
        bits = [1 << at for at in numbers_in(lot)]
        if trial.frees(lot) and not any(trial.frees(lot ^ bit) for bit in bits):
            lots.append(setting_of(trial.forks, lot))
    return tuple(sorted(lots))


def _judge_lot(known, lot):
    """Refuse what is no ascending tuple of different forks."""
    if not isinstance(lot, tuple) or not all(is_number(fork) and fork in known.forks for fork in lot):
        raise BadLot("this is no tuple of forks")
    if not all(one < other for one, other in zip(lot, lot[1:])):
        raise BadLot("the forks do not ascend")


def _with_condition(house, row, mask):
    """The first row of a fork with the condition for the settings of the mask."""
    ahead = row[:row.index("only")]
    return " ".join([ahead + "only"] + condition_words(plain_condition(house[1], mask)))


def freed_text(house, text, lot):
    """The text with other conditions in the rows of the lot that is read for all let settings, or None."""
    known = forked(house, text)
    _judge_lot(known, lot)
    _judge_number(known)
    trial = Trial(house, known)
    number_of_lot = number_of(trial.forks, lot)
    if not trial.frees(number_of_lot):
        return None
    ways = {number: trial.way_with(number_of_lot, number) for number in trial.ways}
    rows = text.split("\n")
    for fork in lot:
        bit = number_of(trial.forks, (fork,))
        mask = mask_of([number for number, way in ways.items() if way & bit])
        # A condition that may stay stays as it was written.
        if (known.masks[known.forks.index(fork)] ^ mask) & let_mask(house):
            rows[fork] = _with_condition(house, rows[fork], mask)
    return "\n".join(rows)

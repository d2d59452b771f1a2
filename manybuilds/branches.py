"""Texts with the fewest branches that tell the same words."""

from manybuilds.branching import branched_text, first_words
from manybuilds.conditions import let_mask
from manybuilds.forks import forked


def _let_rows(house, text):
    """The words of each row, and the let settings for which they stand, of values that are not yet judged."""
    rows = forked(house, text).standing()
    let = let_mask(house)
    return [(words, mask & let) for words, mask in rows]


def fewest_branches(house, text):
    """A text that tells the same words for the same let settings with as few branches as can be."""
    rows = _let_rows(house, text)
    return branched_text(house[1], let_mask(house), rows)


def unshared(house, text):
    """Words no two of which can be of one branch, and none without one: as many as there are fewest branches."""
    rows = _let_rows(house, text)
    return tuple(first_words(let_mask(house), rows))

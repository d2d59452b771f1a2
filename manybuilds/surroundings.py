"""What texts do among the rows of other texts, for all let settings at once."""

from manybuilds.conditions import let_mask
from manybuilds.forks import forked, groups_in, words_for
from manybuilds.masks import numbers_in, plain_condition, setting_of
from manybuilds.pieces import act_of, words_away, words_to


def _act_masks(rows, let):
    """The acts of the standing words, each with the let settings that have it, in the order of the first of each."""
    known = {}
    for group in groups_in(rows, let):
        found = act_of(words_for(rows, group)[0])
        known[found] = known.get(found, 0) | group
    return known


def acts(house, text):
    """The acts that the standing words have, each with the condition of the let settings."""
    rows = forked(house, text).standing()
    known = _act_masks(rows, let_mask(house))
    return tuple([(found, plain_condition(house[1], mask)) for found, mask in known.items()])


def _left(act, wants):
    """What is due behind words of the act where these wants were due, or None if they cannot all stand."""
    if act is None or wants[:len(act[0])] != act[0]:
        return None
    return act[1] + wants[len(act[0]):]


def _around(act, other):
    """The fewest words ahead and behind with which words of the act are read and those of the other are not.

    None if all words with which the one is read are such that the other is, too.
    """
    if act is None or _left(other, act[0]) == act[1]:
        return None
    # More wants than are needed would only take more words ahead and behind.
    return (words_to(act[0]), words_away(act[1]))


def parting(house, one, other):
    """Texts ahead and behind with which just one of the two is read for a let setting, or None."""
    rows = forked(house, one).standing()
    other_rows = forked(house, other).standing()
    let = let_mask(house)
    others = _act_masks(other_rows, let)
    ways = []
    for mine, mask in _act_masks(rows, let).items():
        for yours, other_mask in others.items():
            common = numbers_in(mask & other_mask)
            if common:
                around = [_around(mine, yours), _around(yours, mine)]
                ways.extend([(words, common[0]) for words in around if words is not None])
    if not ways:
        return None
    (ahead, behind), number = min(ways, key=lambda found: (len(found[0][0]) + len(found[0][1]), found[1]))
    return (" ".join(ahead), " ".join(behind), setting_of(house[1], number))

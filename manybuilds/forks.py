"""Texts with rows that stand only if some condition holds."""

from manybuilds.conditions import judge_house, judge_setting, let_mask
from manybuilds.conditiontexts import condition_told
from manybuilds.errors import BadRows
from manybuilds.masks import condition_mask, full_mask, number_of, plain_condition
from manybuilds.texts import judge_text, words_of


class Forked:
    """A text of forks: the index of each fork's first row, its mask, and the rows that have told words.

    A row of told words is kept with the forks around it: pairs of the number
    of a fork and whether the row is in its first branch.
    """

    def __init__(self, house, text):
        self.switches = house[1]
        self.forks = []
        self.masks = []
        self.rows = []
        around = ()
        texts = text.split("\n")
        for at, row in enumerate(texts):
            around = self._behind(at, words_of(row), around)
        if around:
            raise BadRows(len(texts))

    def _behind(self, at, words, around):
        """Take in the row with this index and these words; the forks around what is behind it; BadRows."""
        if not words:
            return around
        if words[0] not in ("only", "other", "over"):
            self.rows.append((words, around))
            return around
        if words[0] == "only":
            condition = condition_told(self.switches, words[1:])
            if condition is None:
                raise BadRows(at)
            self.forks.append(at)
            self.masks.append(condition_mask(self.switches, condition))
            return around + ((len(self.forks) - 1, True),)
        if not around or len(words) > 1:
            raise BadRows(at)
        fork, is_first = around[-1]
        if words[0] == "over":
            return around[:-1]
        if not is_first:
            raise BadRows(at)
        return around[:-1] + ((fork, False),)

    def row_masks(self, masks, full):
        """For each row of told words its words and where it stands, of all in the mask full.

        masks tells for each fork where its condition is taken to hold.
        """
        known = []
        for words, around in self.rows:
            mask = full
            for fork, is_first in around:
                mask &= masks[fork] if is_first else ~masks[fork]
            known.append((words, mask))
        return known

    def standing(self):
        """For each row of told words its words and the settings, let or not, for which it stands."""
        return self.row_masks(self.masks, full_mask(self.switches))


def groups_in(rows, within):
    """The settings of the mask parted into those for which the same rows stand, in the order of the first of each."""
    groups = [within] if within else []
    for mask in sorted({row[1]: True for row in rows}):
        parts = [side for group in groups for side in (group & mask, group & ~mask)]
        groups = [side for side in parts if side]
    return sorted(groups, key=lambda group: group & -group)


def words_for(rows, group):
    """The words that stand for the settings of a group, and the index of each."""
    standing, indexes, at = [], [], 0
    for words, mask in rows:
        if mask & group:
            standing.extend(words)
            indexes.extend(list(range(at, at + len(words))))
        at += len(words)
    return standing, indexes


def how_many_words(rows):
    """How many told words there are."""
    return sum([len(row[0]) for row in rows])


def forked(house, text):
    """The forks of a text, of values that are not yet judged."""
    judge_house(house)
    judge_text(text)
    return Forked(house, text)


def told_words(house, text):
    """The told words, each with the condition for which it stands."""
    rows = forked(house, text).standing()
    let = let_mask(house)
    conditions = {mask: plain_condition(house[1], mask & let) for mask in sorted({row[1]: True for row in rows})}
    return tuple([(word, conditions[mask]) for words, mask in rows for word in words])


def words_where(house, text, setting):
    """The told words that stand for the setting, let or not."""
    rows = forked(house, text).standing()
    judge_setting(house, setting)
    number = number_of(house[1], setting)
    standing = []
    for words, mask in rows:
        if mask >> number & 1:
            standing.extend(words)
    return tuple(standing)

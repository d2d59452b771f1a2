"""What parts show to other parts, as masks: interfaces are made of it and read into it."""

from manybuilds.conditions import is_condition_over, let_mask
from manybuilds.masks import condition_mask, plain_condition
from manybuilds.words import is_name

NUMBER = "number"
TRUTH = "truth"
GIVE = "give"
NEED = "need"


class Seam:
    """What an interface tells: by each name, pair of names or pair of terms the mask of the let settings."""

    def __init__(self, bad):
        self.bad = bad
        self.gives = {}
        self.needs = {}
        self.leans = {}
        self.joins = {}

    def all_terms(self):
        """All terms, in their order."""
        given = [(GIVE, name) for name in sorted(self.gives)]
        return [NUMBER, TRUTH] + given + [(NEED, name) for name in sorted(self.needs)]

    def joined(self, one, other):
        """The settings in which the two terms are joined, whichever is ahead."""
        return self.joins.get((one, other), 0) | self.joins.get((other, one), 0)

    def as_interface(self, switches):
        """The interface."""
        gives = [(name, self.gives[name]) for name in sorted(self.gives)]
        needs = [(name, self.needs[name]) for name in sorted(self.needs)]
        leans = [pair + (self.leans[pair],) for pair in sorted(self.leans)]
        terms = self.all_terms()
        joins = []
        for at, term in enumerate(terms):
            joins.extend([(term, other, self.joins.get((term, other), 0)) for other in terms[at + 1:]])
        lots = [_told_rows(switches, rows) for rows in (gives, needs, leans, joins)]
        return ("interface", plain_condition(switches, self.bad)) + tuple(lots)


def _told_rows(switches, rows):
    """The rows with conditions for their masks, without those of no setting."""
    return tuple([row[:-1] + (plain_condition(switches, row[-1]),) for row in rows if row[-1]])


def _told_mask(house, thing):
    """The mask of any value that is a plain condition of let settings alone, or None."""
    if not is_condition_over(house[1], thing):
        return None
    mask = condition_mask(house[1], thing)
    if mask & ~let_mask(house) or plain_condition(house[1], mask) != thing:
        return None
    return mask


def _told_masks(house, thing, width):
    """By the key of each row of so many items the mask of its settings, or None if this is no tuple of such rows."""
    if not isinstance(thing, tuple):
        return None
    masks = {}
    for row in thing:
        if not isinstance(row, tuple) or len(row) != width:
            return None
        mask = _told_mask(house, row[-1])
        if not mask or not all(_is_word_or_term(item) for item in row[:-1]):
            return None
        key = row[0] if width == 2 else row[:-1]
        if key in masks:
            return None
        masks[key] = mask
    return masks


def _is_word_or_term(thing):
    """Whether any value is a string, or a pair of strings."""
    if isinstance(thing, tuple):
        return len(thing) == 2 and all(isinstance(word, str) for word in thing)
    return isinstance(thing, str)


def _has_form(seam):
    """Whether names, pairs of names and pairs of terms stand where they must, each in order."""
    if not all(is_name(name) for name in list(seam.gives) + list(seam.needs)):
        return False
    if not all(one in seam.gives and other in seam.needs for one, other in seam.leans):
        return False
    ranks = {term: rank for rank, term in enumerate(seam.all_terms())}
    if not all(one in ranks and other in ranks for one, other in seam.joins):
        return False
    if not all(ranks[one] < ranks[other] for one, other in seam.joins):
        return False
    keys = [[ranks[one] * len(ranks) + ranks[other] for one, other in seam.joins]]
    for masks in (seam.gives, seam.needs, seam.leans):
        keys.append(list(masks))
    return all(known == sorted(known) for known in keys)


def seam_of(house, thing):
    """What any value tells that has the form of an interface, or None."""
    if not isinstance(thing, tuple) or len(thing) != 6:
        return None
    if not isinstance(thing[0], str) or thing[0] != "interface":
        return None
    bad = _told_mask(house, thing[1])
    masks = [_told_masks(house, rows, width) for rows, width in zip(thing[2:], (2, 2, 3, 3))]
    if bad is None or None in masks:
        return None
    seam = Seam(bad)
    seam.gives, seam.needs, seam.leans, seam.joins = masks
    return seam if _has_form(seam) else None

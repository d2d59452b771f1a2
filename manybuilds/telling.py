"""Builds that developers tell, and what they offer for the others."""

from manybuilds.conditions import is_let, judge_house, judge_let, let_numbers, where
from manybuilds.errors import BadTold, Clash, TooMany
from manybuilds.forest import Forest
from manybuilds.lines import built, judge_line
from manybuilds.masks import number_of, setting_of
from manybuilds.patching import edit_between, fits, judge_patch
from manybuilds.trees import FIRST, is_tree, order_key

MOST = 60


def is_told_in(house, thing):
    """Whether any value is a tuple of pairs of different let settings and expressions."""
    if not isinstance(thing, tuple):
        return False
    seen = []
    for pair in thing:
        if not isinstance(pair, tuple) or len(pair) != 2:
            return False
        if not is_let(house, pair[0]) or pair[0] in seen or not is_tree(pair[1], ()):
            return False
        seen.append(pair[0])
    return True


def is_told(house, thing):
    """Whether any value is a tuple of pairs of different let settings and expressions."""
    judge_house(house)
    return is_told_in(house, thing)


def judge_told(house, told):
    """Refuse what does not tell builds."""
    if not is_told_in(house, told):
        raise BadTold("this does not tell builds of different let settings")


class Offering:
    """What is offered for the builds of a line when some builds are told; Clash when it is made.

    At a path at most one patch fits a build, as equal old nodes have one new one.
    """

    def __init__(self, house, line, told):
        self.forest = Forest()
        self.numbers = let_numbers(house)
        self.roots = dict(zip(self.numbers, self.forest.built(house[1], line, self.numbers)))
        self.told = {number_of(house[1], setting): self.forest.planted(tree) for setting, tree in told}
        self.news = {}
        for _, path, old, new in _gathered(house, line, told):
            self.news[(path, self.forest.planted(old))] = self.forest.planted(new)
        self.known_offers = {}

    def offers_at(self, path, tree):
        """The number of the set of what may be offered for the tree at the path."""
        key = (path, tree)
        if key not in self.known_offers:
            kids = [self.offers_at(low, kid) for low, kid in self._below(path, tree)]
            ways = [(self.forest.label(tree), tuple(kids))]
            if key in self.news:
                new = self.news[key]
                ways.append((self.forest.label(new), self.forest.kids(new)))
            self.known_offers[key] = self.forest.gathered(ways)
        return self.known_offers[key]

    def patched_at(self, path, tree):
        """The number of the tree with all patches that fit and are within no other one that fits."""
        key = (path, tree)
        if key in self.news:
            return self.news[key]
        kids = [self.patched_at(low, kid) for low, kid in self._below(path, tree)]
        return self.forest.node(self.forest.label(tree), kids)

    def _below(self, path, tree):
        """The paths and numbers of the parts of the tree at the path."""
        first = FIRST[self.forest.label(tree)[0]]
        return [(path + (first + at,), kid) for at, kid in enumerate(self.forest.kids(tree))]

    def offers_for(self, number):
        """The number of the set of the offers for the setting with this number."""
        if number in self.told:
            return self.told[number]
        return self.offers_at((), self.roots[number])


def _gathered(house, line, told):
    """All patches by which the told builds are unlike those of the line, in order; Clash."""
    groups = {}
    forest = Forest()
    for setting, tree in told:
        for patch in edit_between((), built(house, line, setting), tree):
            known = groups.setdefault((patch[1], forest.planted(patch[2])), [])
            if patch not in known:
                known.append(patch)
    clashing = [key[0] for key, known in groups.items() if len(known) > 1]
    if clashing:
        raise Clash(min(clashing))
    several = [known[0] for known in groups.values()]
    return tuple(sorted(several, key=lambda patch: (patch[1], order_key((), patch[2]))))


def patches(house, line, told):
    """All patches by which the told builds are unlike those of the line, in order."""
    judge_house(house)
    judge_line(house, line)
    judge_told(house, told)
    return _gathered(house, line, told)


def reach(house, line, patch):
    """The condition of the let settings whose builds the patch fits."""
    judge_house(house)
    judge_line(house, line)
    judge_patch(patch)
    reached = []
    for number in let_numbers(house):
        if fits(built(house, line, setting_of(house[1], number)), patch):
            reached.append(number)
    return where(house, reached)


def _how_many(forest, number):
    """How many expressions are in the set."""
    total = 0
    for _, kids in forest.ways[number]:
        several = 1
        for kid in kids:
            several *= _how_many(forest, kid)
        total += several
    return total


def _all_of(forest, number):
    """All expressions of the set."""
    found = []
    for label, kids in forest.ways[number]:
        beginnings = [label]
        for kid in kids:
            parts = _all_of(forest, kid)
            beginnings = [begun + (part,) for begun in beginnings for part in parts]
        found.extend(beginnings)
    return found


def offers(house, line, told, setting):
    """All offers for the let setting, in order."""
    judge_house(house)
    judge_line(house, line)
    judge_told(house, told)
    judge_let(house, setting)
    offering = Offering(house, line, told)
    number = offering.offers_for(number_of(house[1], setting))
    if _how_many(offering.forest, number) > MOST:
        raise TooMany(MOST)
    return tuple(sorted(_all_of(offering.forest, number), key=lambda tree: order_key((), tree)))

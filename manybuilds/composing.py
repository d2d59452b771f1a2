"""Parts linked and put together by their interfaces alone."""

from manybuilds.conditions import judge_house, let_mask
from manybuilds.errors import BadInterfaces, Mixed
from manybuilds.interfaces import sound_seam
from manybuilds.linkage import overlap
from manybuilds.masks import plain_condition, put_mask
from manybuilds.nets import Net
from manybuilds.parts import KEEP, judge_parts
from manybuilds.seams import GIVE, NEED, NUMBER, TRUTH, Seam
from manybuilds.ties import web_of


def _judged_seams(house, interfaces):
    """What the interfaces show; BadInterfaces for any value that is no tuple of them."""
    if not isinstance(interfaces, tuple):
        raise BadInterfaces("this is no tuple of interfaces")
    seams = [sound_seam(house, thing) for thing in interfaces]
    if None in seams:
        raise BadInterfaces("this is no tuple of interfaces")
    return seams


def _masks_by_name(lots):
    """By each name that one of the dicts has the masks of all of them."""
    known = {}
    for masks in lots:
        for name, mask in masks.items():
            known.setdefault(name, []).append(mask)
    return known


class Joint:
    """What some parts show, linked by names: a name is the same term for who gives and for who needs it."""

    def __init__(self, house, seams):
        self.let = let_mask(house)
        self.bad = 0
        self.leaning = Net()
        self.kinds = Net()
        for seam in seams:
            self.bad |= seam.bad
            for (one, other), mask in seam.leans.items():
                self.leaning.lead(one, other, mask)
            for (one, other), mask in seam.joins.items():
                self.kinds.tie(_node(one), _node(other), mask)
        self.gives = {}
        for name, masks in _masks_by_name([seam.gives for seam in seams]).items():
            self.bad |= overlap(masks)
            for mask in masks:
                put_mask(self.gives, name, mask)
            self.bad |= self.leaning.behind(name).get(name, 0)
        self.bad |= self.kinds.reached([(NUMBER, self.let)]).get(TRUTH, 0)
        self.needs = {}
        for name, masks in _masks_by_name([seam.needs for seam in seams]).items():
            for mask in masks:
                put_mask(self.needs, name, mask & ~self.gives.get(name, 0))

    def right(self):
        """The let settings in which the parts are right."""
        wrong = self.bad
        for mask in self.needs.values():
            wrong |= mask
        return self.let & ~wrong

    def shown(self):
        """What the parts show when they are put together."""
        seam = Seam(self.bad)
        for name, mask in list(self.gives.items()):
            put_mask(seam.gives, name, mask & ~self.bad)
        for name, mask in list(self.needs.items()):
            put_mask(seam.needs, name, mask & ~self.bad)
        for name, given in seam.gives.items():
            known = self.leaning.reached([(name, given)])
            for other, mask in seam.needs.items():
                put_mask(seam.leans, (name, other), known.get(other, 0) & mask)
        self._put_joins(seam)
        return seam

    def _put_joins(self, seam):
        """Put in which terms are joined."""
        ends = {NUMBER: self.let & ~self.bad, TRUTH: self.let & ~self.bad}
        ends.update({(GIVE, name): mask for name, mask in seam.gives.items()})
        ends.update({(NEED, name): mask for name, mask in seam.needs.items()})
        terms = seam.all_terms()
        for at, term in enumerate(terms):
            known = self.kinds.reached([(_node(term), ends[term])])
            for other in terms[at + 1:]:
                put_mask(seam.joins, (term, other), known.get(_node(other), 0) & ends[other])


def _node(term):
    """The term by which parts are linked that is this one of an interface."""
    # "number" and "truth" are kept words, so no name is one of them.
    return term if term in (NUMBER, TRUTH) else term[1]


def right_by(house, interfaces):
    """The condition of the let settings in which parts with these interfaces are right."""
    judge_house(house)
    return plain_condition(house[1], Joint(house, _judged_seams(house, interfaces)).right())


def put_together(house, interfaces):
    """The interface of parts with these interfaces that are put together."""
    judge_house(house)
    return Joint(house, _judged_seams(house, interfaces)).shown().as_interface(house[1])


def _mixed_names(house, parts):
    """The names of keep rows of a part that another one has for a row or a free read."""
    kept = [[row[1] for row in part[1] if row[0] == KEEP] for part in parts]
    used = []
    for part in parts:
        names = [row[1] for row in part[1]]
        for row in part[1]:
            names.extend(list(web_of(house, row[3]).free_masks))
        used.append(names)
    return [name for at, names in enumerate(kept) for name in names
            if any(name in others for place, others in enumerate(used) if place != at)]


def together(house, parts):
    """The part with the rows of all parts, one behind the other."""
    judge_house(house)
    judge_parts(house, parts)
    mixed = _mixed_names(house, parts)
    if mixed:
        raise Mixed(min(mixed))
    return ("part", tuple([row for part in parts for row in part[1]]))

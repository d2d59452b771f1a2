"""Ties without which numbers and truths no longer meet: in one build, or in all."""

from manybuilds.conditions import is_lot, judge_setting, let_mask
from manybuilds.errors import BadMost, TooMany
from manybuilds.flows import Flow
from manybuilds.masks import number_of, setting_of
from manybuilds.ties import web_of
from manybuilds.trees import is_number

MOST = 3


def _standing(masks, number):
    """For each tie whether it stands in the setting with this number."""
    return [mask >> number & 1 == 1 for mask in masks]


def mend(house, line, setting):
    """A lot of ties that mends the setting, and as many chains of ties that stand in it without a common tie."""
    web = web_of(house, line)
    judge_setting(house, setting)
    flow = Flow(web, _standing(web.masks, number_of(house[1], setting)))
    return (web.ties_at(flow.cut()), tuple([web.ties_at(places) for places in flow.chains()]))


def _lot_places(web, thing):
    """The places of the ties of any value that is a lot, or None."""
    if not isinstance(thing, tuple):
        return None
    places = [web.tie_place(tie) for tie in thing]
    if any(place is None for place in places):
        return None
    return places if all(one < other for one, other in zip(places, places[1:])) else None


def is_mend(house, line, setting, thing):
    """Whether any value is a lot that mends the setting, with as many chains without a common tie."""
    web = web_of(house, line)
    judge_setting(house, setting)
    if not isinstance(thing, tuple) or len(thing) != 2 or not isinstance(thing[1], tuple):
        return False
    number = number_of(house[1], setting)
    places = _lot_places(web, thing[0])
    if places is None or len(places) != len(thing[1]) or web.clashing(1 << number, web.without(places)):
        return False
    standing = _standing(web.masks, number)
    if not all(web.is_chain(known, standing) for known in thing[1]):
        return False
    used = [tie for known in thing[1] for tie in known]
    return len(set(used)) == len(used)


class Mending:
    """The search for a lot of ties that mends a line for all let settings, or for what refuses it."""

    def __init__(self, house, web):
        self.switches = house[1]
        self.let = let_mask(house)
        self.web = web
        self.known = {}
        self.known_standing = {}

    def outcome(self, lot, most):
        """A lot with these ties and at most so many more, told by their places, or a refusal for these ties."""
        key = tuple(sorted(lot))
        if key not in self.known:
            self.known[key] = self._outcome(key, most)
        return self.known[key]

    def _outcome(self, lot, most):
        chains = self._apart(lot, most + 1)
        if not chains:
            return ("lot", lot)
        if len(chains) > most:
            return ("none", self._refusal(chains))
        setting, places = chains[0]
        refusals = []
        for place in places:
            tag, thing = self.outcome(lot + (place,), most - 1)
            if tag == "lot":
                return (tag, thing)
            refusals.append(thing)
        return ("none", (setting, self.web.ties_at(places), tuple(refusals)))

    def _apart(self, lot, most):
        """At most so many chains without a common tie or one of the lot, each as a let setting and places."""
        chains = []
        used = list(lot)
        while len(chains) < most:
            masks = self.web.without(used)
            number = self.web.nearest_clash(self.let, masks)
            if number is None:
                break
            places = self.web.chain_among(_standing(masks, number))
            chains.append((setting_of(self.switches, number), places))
            used.extend(places)
        return chains

    def _refusal(self, chains):
        """The refusal in which each of the chains stands for all ties of the one ahead of it."""
        refusal = None
        for setting, places in reversed(chains):
            below = () if refusal is None else (refusal,) * len(places)
            refusal = (setting, self.web.ties_at(places), below)
        return refusal

    def is_refusal(self, lot, most, thing):
        """Whether any value is a refusal for the ties of the lot and the number."""
        if not isinstance(thing, tuple) or len(thing) != 3:
            return False
        setting, ties, refusals = thing
        if not is_lot(self.switches, setting) or not isinstance(refusals, tuple):
            return False
        number = number_of(self.switches, setting)
        if not self.let >> number & 1 or not self.web.is_chain(ties, self._standing_in(number)):
            return False
        if any(tie in lot for tie in ties) or len(refusals) != (len(ties) if most else 0):
            return False
        return all(self.is_refusal(lot + (tie,), most - 1, inner) for tie, inner in zip(ties, refusals))

    def _standing_in(self, number):
        """For each tie whether it stands in the setting with this number."""
        if number not in self.known_standing:
            self.known_standing[number] = _standing(self.web.masks, number)
        return self.known_standing[number]


def _judge_most(most):
    """Refuse what is no number from 0 to 3."""
    if not is_number(most) or not 0 <= most <= MOST:
        raise BadMost("this is no number from 0 to 3")


def mend_all(house, line, most):
    """A lot of at most so many ties that mends the line, or a refusal."""
    web = web_of(house, line)
    _judge_most(most)
    tag, thing = Mending(house, web).outcome((), most)
    return (tag, web.ties_at(thing) if tag == "lot" else thing)


def is_mend_all(house, line, most, thing):
    """Whether any value is a lot of at most so many ties that mends the line, or a refusal."""
    web = web_of(house, line)
    _judge_most(most)
    if not isinstance(thing, tuple) or len(thing) != 2 or not isinstance(thing[0], str):
        return False
    tag, told = thing
    if tag == "none":
        return Mending(house, web).is_refusal((), most, told)
    places = _lot_places(web, told) if tag == "lot" else None
    return places is not None and len(places) <= most and not web.clashing(let_mask(house), web.without(places))


def fewest_mends(house, line):
    """How many ties the least lot that mends the line has."""
    web = web_of(house, line)
    for most in range(MOST + 1):
        if Mending(house, web).outcome((), most)[0] == "lot":
            return most
    raise TooMany(MOST)

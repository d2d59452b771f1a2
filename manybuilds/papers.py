"""Papers: how a setting comes by steps from those for which a condition holds."""

from manybuilds.hulls import NEEDS, PAIRS
from manybuilds.masks import numbers_in, setting_of


def made_of(form, numbers):
    """The number of the setting that comes in one step from those with these numbers."""
    if form == NEEDS:
        return numbers[0] & numbers[1]
    one, other, third = numbers
    if form == PAIRS:
        return one & other | one & third | other & third
    return one ^ other ^ third


def step_width(form):
    """From how many settings one comes in a step."""
    return 2 if form == NEEDS else 3


class Paper:
    """The steps of a paper, and the place of each setting that was reached."""

    def __init__(self, switches, form, held):
        self.switches = switches
        self.form = form
        self.held = held
        self.told = []
        self.numbers = []
        self.places = {}
        self.votes = {}

    def taken_in(self, number):
        """The place of the step that takes in a setting for which the condition holds."""
        if number not in self.places:
            self._put(number, ("is", setting_of(self.switches, number)))
        return self.places[number]

    def come_from(self, places):
        """The place of a step to what comes from the settings at these places."""
        number = made_of(self.form, [self.numbers[place] for place in places])
        if number not in self.places:
            self._put(number, ("from", tuple(places), setting_of(self.switches, number)))
        return self.places[number]

    def _put(self, number, step):
        self.places[number] = len(self.told)
        self.told.append(step)
        self.numbers.append(number)

    def reach(self, number):
        """The place of the setting of the hull with this number."""
        if self.form == NEEDS:
            return self._met(number)
        if self.form == PAIRS:
            return self._voted(number, (1 << len(self.switches)) - 1)
        return self._summed(number)

    def _met(self, number):
        """The same as reach: what is on in all settings that have all of it on."""
        place = None
        for known in self.held:
            if known & number == number and (place is None or self.numbers[place] & ~known):
                further = self.taken_in(known)
                place = further if place is None else self.come_from((place, further))
        return place

    def _voted(self, number, bits):
        """The place of a setting that is like the one with this number at all these bits.

        Of three settings each of which may be unlike it at one bit, each at
        another one, at least two are like it at each bit.
        """
        if bits not in self.votes:
            singles = [1 << at for at in numbers_in(bits)]
            if len(singles) < 3:
                like = [known for known in self.held if (known ^ number) & bits == 0]
                self.votes[bits] = self.taken_in(like[0])
            else:
                self.votes[bits] = self.come_from([self._voted(number, bits & ~single) for single in singles[:3]])
        return self.votes[bits]

    def _summed(self, number):
        """The same as reach: each step goes on by the bits at which a further setting is unlike the first one."""
        base = self.held[0]
        basis = []
        for known in self.held:
            vector, used = _reduced(basis, known ^ base, [known])
            if vector:
                basis.append((vector, used))
        place = self.taken_in(base)
        for known in _reduced(basis, number ^ base, [])[1]:
            place = self.come_from((place, self.taken_in(known), self.taken_in(base)))
        return place


def _reduced(basis, vector, used):
    """What is left of the vector, and the settings that were used for it, none twice."""
    for other, others in basis:
        if vector ^ other < vector:
            vector ^= other
            used = [known for known in used if known not in others] + [known for known in others if known not in used]
    return vector, used


def paper_to(switches, form, held, number):
    """The steps by which the setting with this number comes from those of the mask, in whose hull it lies."""
    paper = Paper(switches, form, numbers_in(held))
    place = paper.reach(number)
    # Settings that were reached on the way may stand behind it.
    return tuple(paper.told[:place + 1])

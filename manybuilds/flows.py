"""As many chains without a common tie as can be, and as few ties that cut all chains."""

from manybuilds.webs import NUMBER, TRUTH


class Flow:
    """Chains of ties for which usable is true, no tie in two of them, as many as can be.

    sources has, for each tie on a chain, the term from which it leads on.
    """

    def __init__(self, web, usable):
        self.web = web
        self.usable = usable
        self.sources = {}
        self.many = 0
        self.side = self._side()
        while TRUTH in self.side:
            self._turn()
            self.many += 1
            self.side = self._side()

    def _side(self):
        """Each term to which one more chain can lead, with the place of the last tie and the term ahead of it."""
        side = {NUMBER: None}
        todo = [NUMBER]
        while todo and TRUTH not in side:
            following = []
            for term in todo:
                for place, other in self.web.links[term]:
                    # A tie on a chain may be led over just the other way: then it is taken off the chains.
                    if self.usable[place] and other not in side and self.sources.get(place, other) == other:
                        side[other] = (place, term)
                        following.append(other)
            todo = following
        return side

    def _turn(self):
        """Take in one more chain that leads to "truth"."""
        step = self.side[TRUTH]
        while step is not None:
            place, term = step
            if place in self.sources:
                del self.sources[place]
            else:
                self.sources[place] = term
            step = self.side[term]

    def cut(self):
        """The places of as many ties as there are chains without which no chain is left, ascending."""
        places = []
        for place, (_, _, one, other, _) in enumerate(self.web.rows):
            ends = [self.web.terms[end] in self.side for end in (one, other)]
            if self.usable[place] and ends[0] != ends[1]:
                places.append(place)
        return places

    def chains(self):
        """The places of the ties of each chain."""
        left = {place: self.sources[place] for place in self.sources}
        return [self._chain_out_of(left) for _ in range(self.many)]

    def _chain_out_of(self, left):
        """Take the ties of one chain out of the dict, and of rings on its way, which are no part of it."""
        terms = [NUMBER]
        places = []
        while terms[-1] != TRUTH:
            term = terms[-1]
            place, other = [link for link in self.web.links[term] if left.get(link[0], link[1]) == term][0]
            del left[place]
            if other in terms:
                at = terms.index(other)
                terms, places = terms[:at + 1], places[:at]
            else:
                terms.append(other)
                places.append(place)
        return places

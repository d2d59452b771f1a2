"""Nets: what leads to what, in which settings."""


class Net:
    """Terms, and what leads from one to another, each time with the mask of the settings in which it does."""

    def __init__(self):
        self.links = {}

    def lead(self, one, other, mask):
        """Let the one term lead to the other one in the settings of the mask."""
        if mask:
            self.links.setdefault(one, []).append((other, mask))

    def tie(self, one, other, mask):
        """Let each of the two terms lead to the other one."""
        self.lead(one, other, mask)
        self.lead(other, one, mask)

    def reached(self, starts):
        """By each term to which the starts lead, in any number of steps, the mask of the settings; starts are pairs."""
        known = {}
        todo = []
        for term, mask in starts:
            known[term] = known.get(term, 0) | mask
            todo.append(term)
        while todo:
            term = todo.pop()
            for other, mask in self.links.get(term, ()):
                more = known[term] & mask & ~known.get(other, 0)
                if more:
                    known[other] = known.get(other, 0) | more
                    todo.append(other)
        return known

    def behind(self, term):
        """The same as reached, for what is one step or more behind the term."""
        return self.reached(self.links.get(term, []))

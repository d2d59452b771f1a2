"""Runs of builds."""

from manybuilds.lines import judge_expression
from manybuilds.trees import FIRST, TRUTHS, is_number


class Run:
    """The run of the build of a line for a setting: what is shown, and what each node that ends is worth.

    worths is by the paths of the line, and felt has the switches of the
    choices that were reached, in their order.
    """

    def __init__(self, line, setting):
        self.setting = setting
        self.events = []
        self.worths = {}
        self.felt = []
        worth = self._worth(line, (), [])
        self.end = ("stuck",) if worth is None else ("ends", worth)

    def result(self):
        """What is shown, and how the run ends."""
        return (tuple(self.events), self.end)

    def _worth(self, node, path, lets):
        """The worth of the node, or None if it is stuck; lets are the pairs of names and worths around it."""
        # One call for each level: linked builds nest as deep as they have nodes.
        if node[0] == "choice":
            self.felt.append(node[1])
        done = []
        index = self._next_index(node, done)
        while index is not None:
            around = lets + [[node[1], done[0]]] if node[0] == "let" and done else lets
            worth = self._worth(node[index], path + (index,), around)
            if worth is None:
                return None
            done.append(worth)
            index = self._next_index(node, done)
        worth = self._ended(node, done, lets)
        if worth is not None:
            self.worths[path] = worth
        return worth

    def _next_index(self, node, done):
        """The index of the part that is worked out behind those with the worths done, or None if none is."""
        tag = node[0]
        if tag == "choice":
            picked = 2 if node[1] in self.setting else 3
            return None if done else picked
        if tag == "if" and done:
            return 2 + TRUTHS.index(done[0]) if len(done) == 1 and done[0] in TRUTHS else None
        index = FIRST[tag] + len(done)
        return index if index < len(node) else None

    def _ended(self, node, done, lets):
        """The worth of the node whose parts have the worths done, or None if it is stuck."""
        tag = node[0]
        if tag in ("number", "truth"):
            return node[1]
        if tag in ("name", "set"):
            return _named(node, done, lets)
        if tag in ("plus", "less"):
            return _sum_or_less(tag, done[0], done[1])
        if tag == "if" and len(done) == 1:
            return None
        if tag == "show":
            self.events.append(done[0])
        return done[-1]


def _nearest(lets, name):
    """The nearest let of the name, or None."""
    for pair in reversed(lets):
        if pair[0] == name:
            return pair
    return None


def _named(node, done, lets):
    """The worth of a name, or of a set, which becomes that of the nearest let; None without a let."""
    nearest = _nearest(lets, node[1])
    if nearest is None:
        return None
    if done:
        nearest[1] = done[0]
    return nearest[1]


def _sum_or_less(tag, first, second):
    """The worth of a plus or a less of these two worths."""
    if not is_number(first) or not is_number(second):
        return None
    if tag == "plus":
        return first + second
    return "yes" if first < second else "no"


def run(expression):
    """What the expression shows, and how its run ends."""
    judge_expression(expression)
    return Run(expression, ()).result()

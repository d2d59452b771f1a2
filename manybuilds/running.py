"""Runs of builds."""

from manybuilds.lines import judge_expression
from manybuilds.trees import is_number


def run(expression):
    """What the expression shows, and how its run ends."""
    judge_expression(expression)
    events = []
    worth = _worth(expression, [], events)
    if worth is None:
        return (tuple(events), ("stuck",))
    return (tuple(events), ("ends", worth))


def _worth(node, lets, events):
    """The worth of the node, or None if it is stuck; lets are the pairs of names and worths around it."""
    tag = node[0]
    if tag == "number" or tag == "truth":
        return node[1]
    if tag == "name":
        nearest = _nearest(lets, node[1])
        return None if nearest is None else nearest[1]
    if tag == "if":
        return _worth_of_if(node, lets, events)
    if tag == "set":
        return _worth_of_set(node, lets, events)
    if tag == "show":
        return _worth_of_show(node, lets, events)
    # All others work out the part before the last one first.
    first = _worth(node[-2], lets, events)
    if first is None:
        return None
    if tag == "let":
        return _worth(node[3], lets + [[node[1], first]], events)
    second = _worth(node[-1], lets, events)
    if second is None or tag == "then":
        return second
    return _sum_or_less(tag, first, second)


def _nearest(lets, name):
    """The nearest let of the name, or None."""
    for pair in reversed(lets):
        if pair[0] == name:
            return pair
    return None


def _worth_of_if(node, lets, events):
    """The worth of an if."""
    truth = _worth(node[1], lets, events)
    if truth == "yes":
        return _worth(node[2], lets, events)
    if truth == "no":
        return _worth(node[3], lets, events)
    return None


def _worth_of_set(node, lets, events):
    """The worth of a set, which becomes that of the nearest let."""
    worth = _worth(node[2], lets, events)
    nearest = _nearest(lets, node[1])
    if worth is None or nearest is None:
        return None
    nearest[1] = worth
    return worth


def _worth_of_show(node, lets, events):
    """The worth of a show, which is shown."""
    worth = _worth(node[1], lets, events)
    if worth is not None:
        events.append(worth)
    return worth


def _sum_or_less(tag, first, second):
    """The worth of a plus or a less of these two worths."""
    if not is_number(first) or not is_number(second):
        return None
    if tag == "plus":
        return first + second
    return "yes" if first < second else "no"

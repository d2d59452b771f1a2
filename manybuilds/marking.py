"""Lots of switches and their marks, tallies of what is shown, and on which lots these hang."""

from manybuilds.books import book, nodes_with_paths, runs_of
from manybuilds.conditions import is_lot, judge_house
from manybuilds.enough import all_lots
from manybuilds.errors import BadLots, BadMeasure
from manybuilds.lines import judge_line
from manybuilds.trees import TRUTHS, is_number

MOST = 20


def judge_lots(house, lots):
    """Refuse what is no tuple of at most 20 unlike lots."""
    if not isinstance(lots, tuple) or not all(is_lot(house[1], lot) for lot in lots):
        raise BadLots("this is no tuple of lots of switches")
    if len(lots) > MOST or len(set(lots)) != len(lots):
        raise BadLots("these are too many lots, or not unlike")


def _is_inside(lot, other):
    """Whether all switches of the lot are in the other one."""
    return all(s in other for s in lot)


def marks_of(switches, lots):
    """All lots whose switches are all in one of these, in order."""
    return tuple([lot for lot in all_lots(switches) if any(_is_inside(lot, other) for other in lots)])


def marks(house, lots):
    """The marks of the lots, in order."""
    judge_house(house)
    judge_lots(house, lots)
    return marks_of(house[1], lots)


def widest(switches, lots):
    """Those of the lots that lie in no other one, each once, in order."""
    known = [lot for lot in all_lots(switches) if lot in lots]
    return tuple([lot for lot in known if not any(_is_inside(lot, other) and other != lot for other in known)])


def _is_measure(thing):
    """Whether any value is a measure."""
    if not isinstance(thing, tuple) or not thing or not isinstance(thing[0], str):
        return False
    if len(thing) == 1:
        return thing[0] in ("shown", "sum")
    if len(thing) != 2 or thing[0] != "times":
        return False
    worth = thing[1]
    return is_number(worth) and worth >= 0 or isinstance(worth, str) and worth in TRUTHS


def _tally(events, measure):
    """What the events come to."""
    if measure[0] == "shown":
        return len(events)
    if measure[0] == "sum":
        return sum([worth for worth in events if is_number(worth)])
    return events.count(measure[1])


def tallies(house, line, measure):
    """For each let setting what its build shows, measured."""
    judge_house(house)
    judge_line(house, line)
    if not _is_measure(measure):
        raise BadMeasure("this is no measure")
    return tuple([_tally(one.events, measure) for one in runs_of(house, line).values()])


def _switches_in(condition):
    """The switches that stand in the plain condition."""
    if condition[0] != "split":
        return []
    return [condition[1]] + _switches_in(condition[2]) + _switches_in(condition[3])


def lots_of(house, line):
    """The lots of switches on which the shows of the line hang, whatever the rule, in order."""
    judge_house(house)
    judge_line(house, line)
    switches = house[1]
    rows = dict(book(("house", switches, ("yes",)), line))
    lots = []
    for path, node in nodes_with_paths(line):
        if node[0] == "show":
            found = [s for _, condition in rows[path] for s in _switches_in(condition)]
            lots.append(tuple([s for s in switches if s in found]))
    return widest(switches, lots)

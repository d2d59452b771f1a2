"""Tables that come of weights of marks, and balances that show of others that they do not."""

from manybuilds.conditions import judge_house, let_numbers
from manybuilds.errors import BadTable, TooMany
from manybuilds.enough import all_lots
from manybuilds.marking import judge_lots, marks_of, widest
from manybuilds.masks import number_of
from manybuilds.spans import Span, whole
from manybuilds.trees import is_number

MOST = 5


def is_table(house, thing):
    """Whether any value is a tuple of numbers, one for each let setting."""
    if not isinstance(thing, tuple) or not all(is_number(number) for number in thing):
        return False
    return len(thing) == len(let_numbers(house))


def judge_table(house, table):
    """Refuse what is no table."""
    if not is_table(house, table):
        raise BadTable("this is no table of numbers, one for each let setting")


def counts_by_setting(house, lots):
    """For each let setting which marks count: 1 for each that does, 0 for each other one."""
    marks = [number_of(house[1], lot) for lot in marks_of(house[1], lots)]
    return [[1 if number & mark == mark else 0 for mark in marks] for number in let_numbers(house)]


def _counts_by_mark(house, lots):
    """The same, for each mark."""
    marks = [number_of(house[1], lot) for lot in marks_of(house[1], lots)]
    return [[1 if number & mark == mark else 0 for number in let_numbers(house)] for mark in marks]


def _weights(house, lots, table):
    """The weights of the marks, or None if the table is not within the lots."""
    counts = _counts_by_mark(house, lots)
    span = Span(len(table), len(counts))
    for vector in counts:
        span.tried(vector)
    return span.fractions(table)


def weights(house, lots, table):
    """The fraction of each mark, spare ones having none, or None if the table is not within the lots."""
    judge_house(house)
    judge_lots(house, lots)
    judge_table(house, table)
    found = _weights(house, lots, table)
    return None if found is None else tuple(found)


def times(one, other):
    """The sum of the products, place by place."""
    return sum([mine * yours for mine, yours in zip(one, other)])


def is_within(house, lots, table):
    """Whether the table is within the lots."""
    return _weights(house, lots, table) is not None


def is_balance(house, lots, thing):
    """Whether any value is a table whose numbers sum up to 0 for each mark."""
    judge_house(house)
    judge_lots(house, lots)
    if not is_table(house, thing):
        return False
    return all(times(counts, thing) == 0 for counts in _counts_by_mark(house, lots))


def balance(house, lots, table):
    """The balance that shows where the table first is not what the settings ahead tell, or None."""
    judge_house(house)
    judge_lots(house, lots)
    judge_table(house, table)
    counts = counts_by_setting(house, lots)
    span = Span(len(counts[0]) if counts else 0, len(counts))
    for place, vector in enumerate(counts):
        pairs = span.fractions(vector)
        span.tried(vector)
        if pairs is not None:
            behind = [(0, 1)] * (len(table) - place - 1)
            numbers = whole([(-above, below) for above, below in pairs] + [(1, 1)] + behind)
            if times(numbers, table):
                return tuple(numbers)
    return None


def _acts(house, table, lot):
    """Whether the lot acts in the table."""
    lots = [tuple([t for t in house[1] if t != s]) for s in lot]
    return not is_within(house, lots, table)


def acting(house, table):
    """The lots that act in the table and lie in no other one that does, in order."""
    judge_house(house)
    judge_table(house, table)
    if len(house[1]) > MOST:
        raise TooMany(MOST)
    return widest(house[1], [lot for lot in all_lots(house[1]) if _acts(house, table, lot)])

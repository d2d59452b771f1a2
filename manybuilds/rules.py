"""Rules of three forms: the hulls of settings, and whether a condition is told by rows of a form."""

from manybuilds.conditions import is_let, is_lot, is_switch, judge_condition, judge_house, judge_setting, let_mask
from manybuilds.errors import BadForm, BadRow
from manybuilds.hulls import FORMS, NEEDS, PAIRS, hull_mask, needed_rows, row_mask
from manybuilds.masks import condition_mask, full_mask, number_of, numbers_in, plain_condition
from manybuilds.papers import made_of, paper_to, step_width
from manybuilds.ties import good_mask, web_of
from manybuilds.trees import is_number


def _judge_form(form):
    """Refuse what is no form of rows."""
    if not isinstance(form, str) or form not in FORMS:
        raise BadForm("this is no form of rows")


def _is_side(switches, thing):
    """Whether any value is a pair of a switch and "on" or "off"."""
    if not isinstance(thing, tuple) or len(thing) != 2 or not isinstance(thing[1], str):
        return False
    return is_switch(switches, thing[0]) and thing[1] in ("on", "off")


def _is_pair(switches, one, other):
    """Whether any values are the two sides of a row of the form "pairs"."""
    if not _is_side(switches, one) or not _is_side(switches, other):
        return False
    return one == other or switches.index(one[0]) < switches.index(other[0])


def _is_row(switches, form, thing):
    """Whether any value is a row of the form."""
    if not isinstance(thing, tuple) or len(thing) != 3 or not isinstance(thing[0], str):
        return False
    tag, one, other = thing
    if form == PAIRS:
        return tag == "either" and _is_pair(switches, one, other)
    if not is_lot(switches, one):
        return False
    if form == NEEDS:
        return tag == "need" and (other is None or is_switch(switches, other) and other not in one)
    return tag == "sum" and one != () and isinstance(other, str) and other in ("odd", "even")


def is_row(house, form, thing):
    """Whether any value is a row of the form."""
    judge_house(house)
    _judge_form(form)
    return _is_row(house[1], form, thing)


def keeps(house, form, row, setting):
    """Whether the setting, let or not, keeps the row."""
    judge_house(house)
    _judge_form(form)
    if not _is_row(house[1], form, row):
        raise BadRow("this is no row of the form")
    judge_setting(house, setting)
    return row_mask(house[1], row) >> number_of(house[1], setting) & 1 == 1


def _held(house, condition, form):
    """The let settings for which the condition holds, of values that are not yet judged."""
    judge_house(house)
    judge_condition(house, condition)
    _judge_form(form)
    return condition_mask(house[1], condition) & let_mask(house)


def hull(house, condition, form):
    """The condition of all settings that keep each row that all let settings of the condition keep."""
    held = _held(house, condition, form)
    return plain_condition(house[1], hull_mask(house[1], form, held))


def rows_for(house, condition, form):
    """Rows that just the settings of the hull keep, none of which can be left out."""
    held = _held(house, condition, form)
    return needed_rows(house[1], form, held)


def _told_by(house, held, form):
    """Rows that just the let settings of the mask keep, or a paper that there are none."""
    more = numbers_in(hull_mask(house[1], form, held) & let_mask(house) & ~held)
    if more:
        return ("not", paper_to(house[1], form, held, more[0]))
    return ("told", needed_rows(house[1], form, held))


def told_by(house, condition, form):
    """Rows that just the let settings keep for which the condition holds, or a paper that there are none."""
    held = _held(house, condition, form)
    return _told_by(house, held, form)


def _are_telling_rows(house, held, form, thing):
    """Whether any value is a tuple of rows of the form that just the let settings of the mask keep."""
    if not isinstance(thing, tuple) or not all(_is_row(house[1], form, row) for row in thing):
        return False
    mask = full_mask(house[1])
    for row in thing:
        mask &= row_mask(house[1], row)
    return mask & let_mask(house) == held


def _number_behind(house, held, form, numbers, thing):
    """The number of the setting of a step of a paper behind those with these numbers, or None for any other value."""
    if not isinstance(thing, tuple) or len(thing) < 2 or not isinstance(thing[0], str):
        return None
    if not is_lot(house[1], thing[-1]):
        return None
    number = number_of(house[1], thing[-1])
    if thing[0] == "is" and len(thing) == 2:
        return number if held >> number & 1 else None
    if thing[0] != "from" or len(thing) != 3:
        return None
    places = thing[1]
    if not isinstance(places, tuple) or len(places) != step_width(form):
        return None
    if not all(is_number(place) and 0 <= place < len(numbers) for place in places):
        return None
    return number if made_of(form, [numbers[place] for place in places]) == number else None


def _is_paper(house, held, form, thing):
    """Whether any value is a paper that the let settings of the mask are not told by the form."""
    if not isinstance(thing, tuple) or not thing:
        return False
    numbers = []
    for step in thing:
        number = _number_behind(house, held, form, numbers, step)
        if number is None:
            return False
        numbers.append(number)
    return is_let(house, thing[-1][-1]) and not held >> numbers[-1] & 1


def is_told_by(house, condition, form, thing):
    """Whether any value is what told_by may tell."""
    held = _held(house, condition, form)
    if not isinstance(thing, tuple) or len(thing) != 2 or not isinstance(thing[0], str):
        return False
    tag, told = thing
    if tag == "told":
        return _are_telling_rows(house, held, form, told)
    return tag == "not" and _is_paper(house, held, form, told)


def further_rule(house, line, form):
    """Rows that let just the good builds of the line, or a paper that there are none."""
    web = web_of(house, line)
    _judge_form(form)
    return _told_by(house, good_mask(house, web), form)

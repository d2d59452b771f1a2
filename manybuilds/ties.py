"""Kinds: where names are free, what is tied with what, and where numbers and truths do not meet."""

from manybuilds.conditions import judge_house, let_mask
from manybuilds.errors import BadTerm
from manybuilds.lines import judge_line
from manybuilds.masks import plain_condition
from manybuilds.webs import Web


def web_of(house, line):
    """The web of a line, of values that are not yet judged."""
    judge_house(house)
    judge_line(house, line)
    return Web(house[1], line)


def free(house, line):
    """The names with free mentions, each with the condition for which one stands."""
    web = web_of(house, line)
    let = let_mask(house)
    masks = [(name, web.free_masks[name] & let) for name in sorted(web.free_masks)]
    return tuple([(name, plain_condition(house[1], mask)) for name, mask in masks if mask])


def ties(house, line):
    """The ties that stand for some let setting, with their terms and conditions."""
    web = web_of(house, line)
    let = let_mask(house)
    return tuple([row[:4] + (plain_condition(house[1], row[4] & let),) for row in web.rows if row[4] & let])


def joined_where(house, line, one, other):
    """The condition of the let settings in which the two terms are joined."""
    web = web_of(house, line)
    for term in (one, other):
        if not web.is_term(term):
            raise BadTerm("this is no term of the line")
    known = web.reached(web.terms[one], let_mask(house), web.masks)
    return plain_condition(house[1], known[web.terms[other]])


def good_mask(house, web):
    """The let settings in which "number" and "truth" are not joined."""
    let = let_mask(house)
    return let & ~web.clashing(let, web.masks)


def good_where(house, line):
    """The condition of the let settings in which "number" and "truth" are not joined."""
    web = web_of(house, line)
    return plain_condition(house[1], good_mask(house, web))

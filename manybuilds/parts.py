"""Parts: rows that give names to other parts or keep them, and where they are linked right."""

from manybuilds.conditions import is_condition_over, judge_house
from manybuilds.errors import BadPart, BadParts
from manybuilds.linkage import Linkage, overlap
from manybuilds.masks import plain_condition
from manybuilds.trees import is_tree, parts_of
from manybuilds.words import is_name

GIVE = "give"
KEEP = "keep"


def _has_free_set(line, lets):
    """Whether a set of the line is of none of the lets with these names, nor of one within the line."""
    if line[0] == "set" and line[1] not in lets:
        return True
    if line[0] == "let":
        return _has_free_set(line[2], lets) or _has_free_set(line[3], lets + (line[1],))
    return any(_has_free_set(part, lets) for part in parts_of(line))


def _is_part_row(house, thing):
    """Whether any value is a row of a part."""
    if not isinstance(thing, tuple) or len(thing) != 4:
        return False
    tag, name, condition, line = thing
    if not isinstance(tag, str) or tag not in (GIVE, KEEP) or not is_name(name):
        return False
    if not is_condition_over(house[1], condition) or not is_tree(line, house[1]):
        return False
    return not _has_free_set(line, ())


def is_part_of(house, thing):
    """Whether any value is a part."""
    if not isinstance(thing, tuple) or len(thing) != 2:
        return False
    tag, rows = thing
    if not isinstance(tag, str) or tag != "part" or not isinstance(rows, tuple):
        return False
    if not all(_is_part_row(house, row) for row in rows):
        return False
    tags = {row[1]: row[0] for row in rows}
    return all(tags[row[1]] == row[0] for row in rows)


def is_part(house, thing):
    """Whether any value is a part."""
    judge_house(house)
    return is_part_of(house, thing)


def judge_part(house, part):
    """Refuse what is no part."""
    if not is_part_of(house, part):
        raise BadPart("this is no part")


def judge_parts(house, parts):
    """Refuse what is no tuple of parts."""
    if not isinstance(parts, tuple) or not all(is_part_of(house, part) for part in parts):
        raise BadParts("this is no tuple of parts")


def _twice(linkage):
    """Where more than one row of a name of one part stands."""
    return [(("twice",) + key, linkage.standing_twice(linkage.own[key])) for key in sorted(linkage.own)]


def _both(linkage):
    """Where give rows of a name of more than one part stand."""
    pairs = []
    for name in sorted(linkage.givers):
        by_part = {}
        for place in linkage.givers[name]:
            row = linkage.rows[place]
            by_part[row.part] = by_part.get(row.part, 0) | row.mask
        pairs.append((("both", name), overlap(list(by_part.values()))))
    return pairs


def _ring(linkage):
    """Where a row of a name of a part leans on itself."""
    pairs = []
    for key in sorted(linkage.own):
        mask = 0
        for place in linkage.own[key]:
            mask |= linkage.leaning.behind(place).get(place, 0)
        pairs.append((("ring",) + key, mask))
    return pairs


def clash_mask(linkage):
    """Where "number" and "truth" are joined."""
    return linkage.kinds.reached([("number", linkage.let)]).get("truth", 0)


def _errors_in(linkage):
    """All errors, each with the mask of the let settings in which it is there, in their order."""
    lacks = [(("lacks",) + key, linkage.lacks[key]) for key in sorted(linkage.lacks)]
    pairs = _twice(linkage) + _both(linkage) + lacks + _ring(linkage) + [(("clash",), clash_mask(linkage))]
    return [pair for pair in pairs if pair[1]]


def wrong_mask(linkage):
    """Where there is an error that is no "lacks"."""
    wrong = 0
    for error, mask in _errors_in(linkage):
        if error[0] != "lacks":
            wrong |= mask
    return wrong


def link_errors(house, parts):
    """The errors of the parts, each with the condition of the let settings in which it is there."""
    judge_house(house)
    judge_parts(house, parts)
    pairs = _errors_in(Linkage(house, parts))
    return tuple([(error, plain_condition(house[1], mask)) for error, mask in pairs])


def right_mask(linkage):
    """The let settings with no error."""
    wrong = 0
    for _, mask in _errors_in(linkage):
        wrong |= mask
    return linkage.let & ~wrong


def right_where(house, parts):
    """The condition of the let settings with no error."""
    judge_house(house)
    judge_parts(house, parts)
    return plain_condition(house[1], right_mask(Linkage(house, parts)))

"""Texts that tell a line."""

from manybuilds.branching import branched_text
from manybuilds.conditions import judge_house, let_mask
from manybuilds.lines import judge_line
from manybuilds.masks import switch_mask
from manybuilds.trees import parts_of
from manybuilds.wants import BEHIND, JOINTS


def _joints(first):
    """The words ahead of all parts but the first one, behind the first word of an expression."""
    return [[want] for want in BEHIND[first] if want in JOINTS]


def _words_by_part(node):
    """The words of a node ahead of each of its parts; all words of a node without parts."""
    tag = node[0]
    if tag in ("number", "truth", "name"):
        return [[str(node[1])]]
    if tag in ("let", "set"):
        return [[tag, node[1] + ":"]] + _joints(tag)
    first = "first" if tag == "then" else tag
    return [[first]] + _joints(first)


def _tell(switches, line, mask, rows):
    """Put the words of the line into the rows; words that stand for the same settings go on in one row."""
    if not mask:
        return
    if line[0] == "choice":
        on = switch_mask(switches, line[1])
        _tell(switches, line[2], mask & on, rows)
        _tell(switches, line[3], mask & ~on, rows)
        return
    words_by_part = _words_by_part(line)
    _add(rows, words_by_part[0], mask)
    for at, part in enumerate(parts_of(line)):
        if at > 0:
            _add(rows, words_by_part[at], mask)
        _tell(switches, part, mask, rows)


def _add(rows, words, mask):
    """Put the words at the end of the rows."""
    if rows and rows[-1][1] == mask:
        rows[-1][0].extend(words)
    else:
        rows.append((list(words), mask))


def text_of(house, line):
    """A text with the fewest branches that tells the words of the line."""
    judge_house(house)
    judge_line(house, line)
    rows = []
    _tell(house[1], line, let_mask(house), rows)
    return branched_text(house[1], let_mask(house), rows)

"""What is read out of texts, for all let settings at once."""

from manybuilds.conditions import let_mask
from manybuilds.errors import BadIndex
from manybuilds.forest import Forest
from manybuilds.forks import forked, groups_in, how_many_words, words_for
from manybuilds.masks import mask_of, numbers_in, plain_condition
from manybuilds.searching import least_line
from manybuilds.trees import is_number
from manybuilds.wants import are_read, due_behind, expression_told

END = "the end"


def read_mask(rows, within):
    """The settings of the mask whose standing words are read."""
    mask = 0
    for group in groups_in(rows, within):
        if are_read(words_for(rows, group)[0]):
            mask |= group
    return mask


def _fault(rows, group):
    """The index of the first word that cannot stand, and the want there, or None if the words are read."""
    words, indexes = words_for(rows, group)
    many, wants = due_behind(words)
    if many < len(words):
        return (indexes[many], wants[-1] if wants else END)
    return (how_many_words(rows), wants[-1]) if wants else None


def reading(house, text):
    """The line that the text tells, the settings for which it is read, and what is wrong for the others."""
    rows = forked(house, text).standing()
    forest = Forest()
    trees, faulty = {}, {}
    for group in groups_in(rows, let_mask(house)):
        fault = _fault(rows, group)
        if fault is not None:
            faulty[fault] = faulty.get(fault, 0) | group
            continue
        tree = forest.planted(expression_told(words_for(rows, group)[0]))
        for number in numbers_in(group):
            trees[number] = tree
    numbers = sorted(trees)
    line = least_line(forest, house[1], numbers, [trees[number] for number in numbers]) if numbers else None
    faults = [(at, want, plain_condition(house[1], faulty[(at, want)])) for at, want in sorted(faulty)]
    return (line, plain_condition(house[1], mask_of(numbers)), tuple(faults))


def due(house, text, at):
    """What is due behind the standing words ahead of an index, each with the settings for which it is."""
    rows = forked(house, text).standing()
    if not is_number(at) or not 0 <= at <= how_many_words(rows):
        raise BadIndex("this is no index of a word, nor of the end")
    known = {}
    for group in groups_in(rows, let_mask(house)):
        words, indexes = words_for(rows, group)
        ahead = [word for word, index in zip(words, indexes) if index < at]
        many, wants = due_behind(ahead)
        if many == len(ahead):
            wants = tuple(wants[::-1])
            known[wants] = known.get(wants, 0) | group
    return tuple([(wants, plain_condition(house[1], mask)) for wants, mask in known.items()])

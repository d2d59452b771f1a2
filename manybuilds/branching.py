"""Rows of words, each with its settings, as texts with the fewest branches.

Words of one branch stand for the same settings, and all words between them
stand within these alone. So a branch may stay around further rows for as
long as they stand within its settings; and words of like settings that are
not of one branch then are so in no text that tells all the words.
"""

from manybuilds.conditiontexts import condition_words
from manybuilds.masks import plain_condition


def _is_within(mask, other):
    """Whether all settings of the mask are in the other one."""
    return mask & ~other == 0


def _steps(let, rows):
    """The rows of such a text: ("only", mask, at), ("over",) or ("words", words), at the index of the next word."""
    around = []
    steps = []
    at = 0
    for words, mask in rows:
        # What stands for no let setting may lack.
        if mask:
            while around and not _is_within(mask, around[-1]):
                around.pop()
                steps.append(("over",))
            if mask != (around[-1] if around else let):
                around.append(mask)
                steps.append(("only", mask, at))
            steps.append(("words", words))
        at += len(words)
    return steps + [("over",)] * len(around)


def branched_text(switches, let, rows):
    """The text with the fewest branches that tells the words of the rows, pairs of words and a mask of let settings."""
    texts = []
    for step in _steps(let, rows):
        if step[0] == "words":
            texts.append(step[1])
        elif step[0] == "only":
            texts.append(["only"] + condition_words(plain_condition(switches, step[1])))
        else:
            texts.append(["over"])
    return "\n".join([" ".join(words) for words in texts])


def first_words(let, rows):
    """For each branch of such a text the index of the first of its words."""
    return [step[2] for step in _steps(let, rows) if step[0] == "only"]

"""Conditions that are written by words."""

from manybuilds.conditions import is_switch, judge_condition, judge_house
from manybuilds.errors import BadCondition
from manybuilds.texts import grown, judge_text, words_of

CONDITION = "a condition"
SWITCH = "a switch"

# What is due behind the first word of a condition, by this word.
BEHIND = {
    "yes": (),
    "no": (),
    "not": ("a condition",),
    "both": ("a condition", "and", "a condition"),
    "either": ("a condition", "or", "a condition"),
    "when": ("a switch", "take", "a condition", "otherwise", "a condition"),
}

# The label and the number of parts of the condition that the word begins; that of "when" comes with its switch.
HEADS = {
    "yes": (("yes",), 0),
    "no": (("no",), 0),
    "not": (("not",), 1),
    "both": (("and",), 2),
    "either": (("or",), 2),
}


def condition_words(condition):
    """The words of a condition."""
    tag = condition[0]
    if tag in ("yes", "no"):
        return [tag]
    if tag == "is":
        return [condition[1]]
    if tag == "not":
        return ["not"] + condition_words(condition[1])
    one = condition_words(condition[-2])
    other = condition_words(condition[-1])
    if tag == "and":
        return ["both"] + one + ["and"] + other
    if tag == "or":
        return ["either"] + one + ["or"] + other
    return ["when", condition[1], "take"] + one + ["otherwise"] + other


def condition_told(switches, words):
    """The condition that all the words tell, or None."""
    due = [CONDITION]
    heads = []
    for word in words:
        if not due:
            return None
        want = due.pop()
        if want == SWITCH:
            if not is_switch(switches, word):
                return None
            heads.append((("split", word), 2))
        elif want == CONDITION:
            if is_switch(switches, word):
                heads.append((("is", word), 0))
            elif word not in BEHIND:
                return None
            else:
                due.extend(BEHIND[word][::-1])
                if word in HEADS:
                    heads.append(HEADS[word])
        elif word != want:
            return None
    return None if due else grown(heads)


def condition_text(house, condition):
    """The words of the condition, one blank between."""
    judge_house(house)
    judge_condition(house, condition)
    return " ".join(condition_words(condition))


def condition_of(house, text):
    """The condition that the words of the text tell."""
    judge_house(house)
    judge_text(text)
    condition = condition_told(house[1], words_of(text))
    if condition is None:
        raise BadCondition("the words tell no condition")
    return condition

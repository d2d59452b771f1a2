"""What is due when words are read: the wants, the words that fit them, and what takes their place."""

from manybuilds.texts import grown
from manybuilds.words import is_name

EXPRESSION = "an expression"
NAME = "a name"

# The words that are wanted themselves, each ahead of an expression that is still due.
JOINTS = ("in", "with", "than", "then", "else", "next")

# What is due in the place of an expression behind its first word.
BEHIND = {
    "let": ("a name", "an expression", "in", "an expression"),
    "set": ("a name", "an expression"),
    "plus": ("an expression", "with", "an expression"),
    "less": ("an expression", "than", "an expression"),
    "if": ("an expression", "then", "an expression", "else", "an expression"),
    "show": ("an expression",),
    "first": ("an expression", "next", "an expression"),
}

# The label and the number of parts of the node that the word begins; for let and set the name is lacking.
HEADS = {
    "let": (("let",), 2),
    "set": (("set",), 1),
    "plus": (("plus",), 2),
    "less": (("less",), 2),
    "if": (("if",), 3),
    "show": (("show",), 1),
    "first": (("then",), 2),
}


def is_figures(word):
    """Whether the word is the figures of a number from 0 to 999, without a zero ahead."""
    return word.isdigit() and len(word) <= 3 and (word == "0" or word[0] != "0")


def is_leaf(word):
    """Whether the word is an expression by itself."""
    return word in ("yes", "no") or is_figures(word) or is_name(word)


def want_of(word):
    """The one want that the word fits, or None."""
    if word in JOINTS:
        return word
    if word in BEHIND or is_leaf(word):
        return EXPRESSION
    if word[-1:] == ":" and is_name(word[:-1]):
        return NAME
    return None


def placed(word):
    """What comes in the place of the want that the word fits."""
    return BEHIND[word] if word in BEHIND else ()


def due_behind(words):
    """How many of the words can stand, and what is due behind these, the next want last."""
    due = [EXPRESSION]
    for at, word in enumerate(words):
        if not due or due[-1] != want_of(word):
            return at, due
        due.pop()
        due.extend(placed(word)[::-1])
    return len(words), due


def are_read(words):
    """Whether the words are read."""
    many, due = due_behind(words)
    return many == len(words) and not due


def _leaf(word):
    """The expression that is one word."""
    if is_figures(word):
        return ("number", int(word))
    if word in ("yes", "no"):
        return ("truth", word)
    return ("name", word)


def expression_told(words):
    """The expression that words tell that are read."""
    heads = []
    for word in words:
        if word in HEADS:
            heads.append(HEADS[word])
        elif word[-1:] == ":":
            label, many = heads.pop()
            heads.append((label + (word[:-1],), many))
        elif word not in JOINTS:
            heads.append((_leaf(word), 0))
    return grown(heads)

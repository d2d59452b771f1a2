"""The kept words, and what a name is."""

KEPT = (
    "and", "both", "choice", "either", "else", "first", "house", "if", "in", "is", "less", "let", "name",
    "next", "no", "not", "number", "only", "or", "other", "otherwise", "over", "plus", "rule", "set", "show",
    "split", "switches", "take", "than", "then", "truth", "when", "with", "yes",
)

LETTERS = "abcdefghijklmnopqrstuvwxyz"


def is_name(thing):
    """Whether any value is a name: 1 to 8 letters, and no kept word."""
    if not isinstance(thing, str) or not 1 <= len(thing) <= 8:
        return False
    return all(letter in LETTERS for letter in thing) and thing not in KEPT


def fresh_names(taken, many):
    """The first names, by length and then by letters, that are none of those taken."""
    found = []
    longer = [""]
    while len(found) < many:
        longer = [name + letter for name in longer for letter in LETTERS]
        found.extend([name for name in longer if name not in KEPT and name not in taken])
    return found[:many]

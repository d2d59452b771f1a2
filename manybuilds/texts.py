"""Texts, their rows and words, and trees that are told by words."""

from manybuilds.errors import BadText


def is_text(thing):
    """Whether any value is a string of line feeds and characters from the blank to ~."""
    if not isinstance(thing, str):
        return False
    return all(" " <= letter <= "~" or letter == "\n" for letter in thing)


def judge_text(text):
    """Refuse what is no text."""
    if not is_text(text):
        raise BadText("this is no text")


def words_of(text):
    """The words of a text or a row of it: a judged text has no other blanks than those that split takes."""
    return text.split()


def grown(heads):
    """The tree whose nodes, each ahead of its parts, are told by pairs of a label and how many parts it has."""
    trees = []
    for label, many in reversed(heads):
        parts = [trees.pop() for _ in range(many)]
        trees.append(label + tuple(parts))
    return trees[0]

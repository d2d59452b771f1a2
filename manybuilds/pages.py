"""Pages: texts with their houses."""

from manybuilds.conditions import is_house
from manybuilds.conditiontexts import condition_told, condition_words
from manybuilds.errors import BadRows
from manybuilds.forks import Forked, forked
from manybuilds.texts import judge_text, words_of


def _house_of(texts):
    """The house that the first two rows of a page tell; BadRows."""
    first = words_of(texts[0])
    switches = tuple(first[1:])
    if first[:1] != ["switches"] or not is_house(("house", switches, ("yes",))):
        raise BadRows(0)
    if len(texts) < 2:
        raise BadRows(1)
    second = words_of(texts[1])
    rule = condition_told(switches, second[1:])
    if second[:1] != ["rule"] or rule is None:
        raise BadRows(1)
    return ("house", switches, rule)


def read_page(text):
    """The house and the text of a page."""
    judge_text(text)
    texts = text.split("\n")
    house = _house_of(texts)
    if len(texts) < 3:
        raise BadRows(2)
    rest = "\n".join(texts[2:])
    try:
        Forked(house, rest)
    except BadRows as e:
        raise BadRows(e.at + 2) from None
    return (house, rest)


def page_text(house, text):
    """The page of the house and the text."""
    forked(house, text)
    first = ["switches"] + list(house[1])
    second = ["rule"] + condition_words(house[2])
    return "\n".join([" ".join(first), " ".join(second), text])

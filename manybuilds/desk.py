"""A desk: a house and a text that change by deeds, and questions on all of their builds."""

from manybuilds.askings import least_askings
from manybuilds.blame import freed
from manybuilds.books import shows
from manybuilds.branches import fewest_branches
from manybuilds.conditions import fate, is_let
from manybuilds.conditiontexts import condition_text
from manybuilds.errors import (
    BadIndex, BadRows, BadSetting, BadStep, BadSwitch, BadText, LastSwitch, NothingDone, NothingUndone, TooMany)
from manybuilds.forks import told_words, words_where
from manybuilds.keying import least_keys
from manybuilds.lines import built
from manybuilds.linetexts import text_of
from manybuilds.pages import page_text, read_page
from manybuilds.readings import reading
from manybuilds.running import run
from manybuilds.stepping import after
from manybuilds.texts import is_text, words_of
from manybuilds.ties import good_where
from manybuilds.trees import order_key
from manybuilds.words import is_name

OK = "ok"
WHAT = "what"
NONE = "none"


def _number_in(word):
    """The number of 1 to 5 figures that the word is, or None."""
    if not word.isdigit() or len(word) > 5 or len(word) > 1 and word[0] == "0":
        return None
    return int(word)


def _setting_in(word):
    """The names with a + between that the word is, or None."""
    names = [] if word == "-" else word.split("+")
    return tuple(names) if all(is_name(name) for name in names) else None


def _lot_text(names):
    """The names with a + between."""
    return "+".join(names) if names else "-"


def _rows_text(rows):
    """The rows, a line feed between."""
    return "\n".join(rows) if rows else NONE


def _result_text(result):
    """The events and the end of a run."""
    events, end = result
    return " ".join([str(word) for word in events + end])


def _how_many_branches(text):
    """How many branches the text has."""
    return len([row for row in text.split("\n") if words_of(row)[:1] in (["only"], ["other"])])


def _page(desk):
    return page_text(desk.house, desk.text)


def _read(desk):
    return condition_text(desk.house, desk.read_out()[1])


def _faults(desk):
    rows = [f"{at} {want}: {condition_text(desk.house, condition)}" for at, want, condition in desk.read_out()[2]]
    return _rows_text(rows)


def _branches(desk):
    fewest = fewest_branches(desk.house, desk.text)
    return f"{_how_many_branches(desk.text)} {_how_many_branches(fewest)}"


def _blame(desk):
    lots = freed(desk.house, desk.text)
    return _rows_text([" ".join([str(fork) for fork in lot]) if lot else "-" for lot in lots])


def _line(desk):
    choices, nodes, _ = order_key(desk.house[1], desk.read_out()[0])
    return f"{choices} {nodes}"


def _kinds(desk):
    house = desk.good_house()
    return condition_text(house, good_where(house, desk.read_out()[0]))


def _shows(desk):
    house = desk.good_house()
    rows = shows(house, desk.read_out()[0])
    return _rows_text([f"{_result_text(result)}: {condition_text(house, condition)}" for result, condition in rows])


def _askings(desk):
    return str(least_askings(desk.good_house(), desk.read_out()[0]))


def _keys(desk):
    return _rows_text([_lot_text(lot) for lot in least_keys(desk.good_house(), desk.read_out()[0])])


# The questions that are one word; those on the line need one.
ON_TEXT = {"page": _page, "read": _read, "faults": _faults, "branches": _branches, "blame": _blame}
ON_LINE = {"line": _line, "kinds": _kinds, "shows": _shows, "askings": _askings, "keys": _keys}


class Desk:
    """A house and a text, at first those of a page, and what was done to them.

    done has the houses and texts ahead of each deed, undone those ahead of
    each undo.
    """

    def __init__(self, text):
        self.house, self.text = read_page(text)
        self.told = None
        self.done = []
        self.undone = []

    def read_out(self):
        """What is read out of the text."""
        if self.told is None:
            self.told = reading(self.house, self.text)
        return self.told

    def good_house(self):
        """The house that lets just those settings that are read."""
        return ("house", self.house[1], self.read_out()[1])

    def say(self, line):
        """The answer to any value: deeds change the desk, questions do not."""
        if not is_text(line):
            return WHAT
        try:
            return self._answer(line)
        except BadIndex:
            return "error BadIndex"
        except BadRows:
            return "error BadRows"
        except BadSetting:
            return "error BadSetting"
        except BadStep:
            return "error BadStep"
        except BadSwitch:
            return "error BadSwitch"
        except BadText:
            return "error BadText"
        except LastSwitch:
            return "error LastSwitch"
        except NothingDone:
            return "error NothingDone"
        except NothingUndone:
            return "error NothingUndone"
        except TooMany:
            return "error TooMany"

    def _answer(self, line):
        """The answer to a text."""
        rows = line.split("\n")
        words = rows[0].split(" ")
        if not all(word != "" for word in words):
            return WHAT
        if words[0] == "switches":
            house, text = read_page(line)
            return self._deed(house, text)
        if words[0] == "row" and len(words) == 2 and len(rows) > 1:
            return self._row(_number_in(words[1]), rows[1:])
        if len(rows) > 1:
            return WHAT
        if len(words) == 1:
            return self._answer_to_word(words[0])
        if len(words) == 2:
            return self._answer_to_two(words[0], words[1])
        if len(words) == 3 and words[0] == "retire" and is_name(words[1]) and words[2] in ("on", "off"):
            return self._retire(words[1], words[2])
        return WHAT

    def _answer_to_word(self, word):
        """The answer to a line of one word."""
        if word in ON_TEXT:
            question = ON_TEXT[word]
            return question(self)
        if word in ON_LINE:
            question = ON_LINE[word]
            return question(self) if self.read_out()[0] is not None else NONE
        if word == "tidy":
            return self._deed(self.house, fewest_branches(self.house, self.text))
        if word == "rewrite":
            return self._deed(self.house, text_of(self.house, self._whole_line()))
        if word == "undo":
            return self._undo()
        return self._redo() if word == "redo" else WHAT

    def _answer_to_two(self, word, told):
        """The answer to a line of two words."""
        if word == "fate" and is_name(told):
            return fate(self.house, told)
        setting = _setting_in(told)
        if setting is None or word not in ("words", "run"):
            return WHAT
        if word == "words":
            return " ".join(list(words_where(self.house, self.text, setting)))
        house = self.good_house()
        if not is_let(house, setting):
            raise BadSetting("the text is not read for this")
        return _result_text(run(built(house, self.read_out()[0], setting)))

    def _move_to(self, house, text):
        """Have this house and this text."""
        self.house = house
        self.text = text
        self.told = None
        return OK

    def _deed(self, house, text):
        """Have this house and this text, so that it may be taken back."""
        self.done.append((self.house, self.text))
        self.undone = []
        return self._move_to(house, text)

    def _row(self, number, rows):
        """Put rows in the place of the one with this index."""
        if number is None:
            return WHAT
        known = self.text.split("\n")
        if number >= len(known):
            raise BadIndex("the text has no such row")
        text = "\n".join(known[:number] + rows + known[number + 1:])
        told_words(self.house, text)
        return self._deed(self.house, text)

    def _whole_line(self):
        """The line, if it is read for all let settings; BadText."""
        line, _, faults = self.read_out()
        if line is None or faults:
            raise BadText("the text is not read for all let settings")
        return line

    def _retire(self, s, side):
        """Retire the switch."""
        house, line = after(self.house, self._whole_line(), ("retire", s, side))
        return self._deed(house, text_of(house, line))

    def _undo(self):
        """Take back the last deed that was not taken back."""
        if not self.done:
            raise NothingDone("there is no deed to take back")
        house, text = self.done.pop()
        self.undone.append((self.house, self.text))
        return self._move_to(house, text)

    def _redo(self):
        """Take back the last undo behind which no deed was done."""
        if not self.undone:
            raise NothingUndone("there is no undo to take back")
        house, text = self.undone.pop()
        self.done.append((self.house, self.text))
        return self._move_to(house, text)

"""Points 3 and 20: kept words and names."""

import unittest

from manybuilds.words import KEPT, is_name
from tests.helpers import STRANGE

WORDS = (
    "and, both, choice, either, else, first, house, if, in, is, less, let, name, next, no, not, number, only, or, "
    "other, otherwise, over, plus, rule, set, show, split, switches, take, than, then, truth, when, with, yes"
)


class TestWords(unittest.TestCase):
    def test_kept(self):
        self.assertEqual(KEPT, tuple(WORDS.split(", ")))
        self.assertEqual(len(KEPT), 35)

    def test_names(self):
        for name in ("a", "z", "abcdefgh", "zzzzzzzz", "ands", "housing", "yess", "iff", "build"):
            self.assertIs(is_name(name), True, name)

    def test_kept_words_are_no_names(self):
        for word in KEPT:
            self.assertIs(is_name(word), False, word)

    def test_lengths_and_letters(self):
        for wrong in ("", "abcdefghi", "A", "aB", "a1", "1", "a b", " a", "a\n", "a-b", "a_b", "\u00e9", "\u00df", "`", "{"):
            self.assertIs(is_name(wrong), False, wrong)

    def test_any_value(self):
        for thing in STRANGE:
            self.assertIs(is_name(thing), thing == "a", thing)
        for thing in (("a",), ["a"], b"abc", {"a": 1}, 97):
            self.assertIs(is_name(thing), False)


if __name__ == "__main__":
    unittest.main()

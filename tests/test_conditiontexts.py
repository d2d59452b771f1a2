"""Point 20: texts, and conditions that are written by words."""

import itertools
import unittest

from manybuilds.conditions import is_condition, plain
from manybuilds.conditiontexts import condition_of, condition_text
from manybuilds.errors import BadCondition, BadHouse, BadText
from tests.helpers import (
    AB, HOUSES, KEPT_WORDS, NO, NONE, ONE, SEVEN, STRANGE, YES, assert_judged, dice_of, random_condition, slow_condition,
    slow_condition_text)

A, B = ("is", "a"), ("is", "b")
WRITTEN = (
    ("yes", YES), ("no", NO), ("a", A), ("b", B), ("not a", ("not", A)), ("not not yes", ("not", ("not", YES))),
    ("both a and b", ("and", A, B)), ("either a or no", ("or", A, NO)), ("when a take b otherwise yes", ("split", "a", B, YES)),
    ("both not a and either a or b", ("and", ("not", A), ("or", A, B))),
    ("when b take when a take yes otherwise no otherwise both a and b",
     ("split", "b", ("split", "a", YES, NO), ("and", A, B))),
)


class TestConditionTexts(unittest.TestCase):
    def test_by_hand(self):
        for text, condition in WRITTEN:
            self.assertEqual(condition_text(AB, condition), text)
            self.assertEqual(condition_of(AB, text), condition)
            self.assertIs(type(condition_of(AB, text)), tuple)

    def test_rows_and_blanks_do_not_count(self):
        for text, condition in WRITTEN:
            words = text.split()
            for joint in ("\n", "  ", " \n\n ", "\n "):
                self.assertEqual(condition_of(AB, joint.join(words)), condition)
                self.assertEqual(condition_of(AB, joint + joint.join(words) + joint), condition)

    def test_there_and_back(self):
        dice = dice_of(71)
        for house in HOUSES + (SEVEN,):
            for _ in range(25):
                condition = random_condition(dice, house[1], dice.randint(1, 14))
                text = condition_text(house, condition)
                self.assertEqual(text, slow_condition_text(condition))
                self.assertEqual(condition_of(house, text), condition)
                told = plain(house, condition)
                self.assertEqual(condition_of(house, condition_text(house, told)), told)

    def test_all_short_texts(self):
        words = ("yes", "a", "not", "both", "and", "either", "or", "when", "take", "otherwise", "c", "is", "otherwise")
        told = 0
        for many in range(5):
            for row in itertools.product(words, repeat=many):
                expected = slow_condition(("a",), list(row))
                if expected is None:
                    with self.assertRaises(BadCondition):
                        condition_of(ONE, " ".join(row))
                else:
                    self.assertEqual(condition_of(ONE, " ".join(row)), expected)
                    told += 1
        self.assertEqual(told, 2 + 2 + 2 + (2 + 2 * 4))

    def test_spoiled_texts(self):
        dice = dice_of(72)
        for _ in range(400):
            words = slow_condition_text(random_condition(dice, AB[1], dice.randint(1, 8))).split()
            at = dice.randrange(len(words))
            words = dice.choice((words[:at], words[at + 1:], words + ["a"], words[:at] + [words[at]] + words[at:],
                                 words[:at] + [dice.choice(("a", "not", "and", "take", "q", "only"))] + words[at + 1:]))
            expected = slow_condition(AB[1], words)
            if expected is None:
                with self.assertRaises(BadCondition):
                    condition_of(AB, " ".join(words))
            else:
                self.assertEqual(condition_of(AB, " ".join(words)), expected)

    def test_no_condition(self):
        for text in ("", " ", "\n", "c", "A", "a b", "yes no", "not", "both a b", "both a and", "both a or b", "either a and b",
                     "when a take b", "when yes take a otherwise b", "when not a take a otherwise b", "when a b otherwise a",
                     "is a", "(a)", "a:", "1", "split a yes no", "when", "when a", "take", "and", "yes and no", "a\nb"):
            with self.assertRaises(BadCondition):
                condition_of(AB, text)
        for word in KEPT_WORDS:
            if word not in ("yes", "no"):
                with self.assertRaises(BadCondition):
                    condition_of(AB, word)

    def test_switches_of_the_house_alone(self):
        with self.assertRaises(BadCondition):
            condition_of(ONE, "b")
        self.assertEqual(condition_of(("house", ("truthful", "b"), YES), "both truthful and b"),
                         ("and", ("is", "truthful"), B))

    def test_a_house_that_lets_none(self):
        self.assertEqual(condition_of(NONE, "not b"), ("not", B))
        self.assertEqual(condition_text(NONE, ("not", B)), "not b")

    def test_long_texts(self):
        text = "both " * 1999 + "yes"
        self.assertLessEqual(len(text), 10000)
        with self.assertRaises(BadCondition):
            condition_of(AB, text)
        with self.assertRaises(BadCondition):
            condition_of(AB, "yes " * 2500)
        deep = "not " * 59 + "a"
        self.assertEqual(condition_text(AB, condition_of(AB, deep)), deep)

    def test_refused(self):
        assert_judged(self, condition_text, (AB, A), (0, (), BadHouse), (1, ("is", "c"), BadCondition))
        assert_judged(self, condition_of, (AB, "a"), (0, (), BadHouse), (1, None, BadText), (1, "c", BadCondition))
        for bad in STRANGE:
            if not is_condition(AB, bad):
                with self.assertRaises(BadCondition):
                    condition_text(AB, bad)
            if not isinstance(bad, str):
                with self.assertRaises(BadText):
                    condition_of(AB, bad)
            with self.assertRaises(BadHouse):
                condition_text(bad, A)
            with self.assertRaises(BadHouse):
                condition_of(bad, "a")

    def test_no_text(self):
        for bad in ("a\t", "\r\n", "\x7f", "\x1f", "\u00e4", "a\u00a0b", "\u2028", "\x0b", "\x0c", "yes\x00", b"yes", ["yes"]):
            with self.assertRaises(BadText):
                condition_of(AB, bad)
        for letter in map(chr, range(32, 127)):
            if letter.strip() and letter not in "ab":
                with self.assertRaises(BadCondition):
                    condition_of(AB, letter)


if __name__ == "__main__":
    unittest.main()

"""Point 21, and what point 28 says of it: told words, and for which settings they stand."""

import itertools
import unittest

from manybuilds.errors import BadHouse, BadRows, BadSetting, BadText
from manybuilds.forks import told_words, words_where
from tests.helpers import (
    AB, HOUSES, NO, NONE, OR, SEVEN, STRANGE, YES, assert_judged, assert_told, dice_of, random_house, random_text, slow_all,
    slow_holds, slow_let, slow_told, slow_where)

EXAMPLE = "let x: 3 in\nonly a\nplus x with\nover\nonly b\nx\nother\n4 5\nover"
A, NOT_A, B = ("split", "a", YES, NO), ("split", "a", NO, YES), ("split", "b", YES, NO)


def conditions(house, text):
    return [condition for _, condition in told_words(house, text)]


def bad_row(house, rows):
    """The index of the first row with which no text of forks goes on, or how many rows there are; None for a good text.

    What goes on at all goes on with rows that end all forks that are open.
    """
    for at in range(len(rows)):
        if all(slow_told(house, "\n".join(rows[:at + 1] + ["over"] * more)) is None for more in range(at + 2)):
            return at
    return None if slow_told(house, "\n".join(rows)) is not None else len(rows)


class TestByHand(unittest.TestCase):
    def test_example(self):
        told = told_words(OR, EXAMPLE)
        self.assertEqual([word for word, _ in told], "let x: 3 in plus x with x 4 5".split())
        let = ("split", "a", YES, B)
        a_alone = ("split", "a", ("split", "b", NO, YES), NO)
        self.assertEqual([condition for _, condition in told], [let] * 4 + [A] * 3 + [B] + [a_alone] * 2)
        self.assertEqual(words_where(OR, EXAMPLE, ("b",)), tuple("let x: 3 in x".split()))
        self.assertEqual(words_where(OR, EXAMPLE, ("a", "b")), tuple("let x: 3 in plus x with x".split()))
        self.assertEqual(words_where(OR, EXAMPLE, ("a",)), tuple("let x: 3 in plus x with 4 5".split()))

    def test_a_setting_that_is_not_let(self):
        self.assertEqual(words_where(OR, EXAMPLE, ()), tuple("let x: 3 in 4 5".split()))
        self.assertEqual(words_where(NONE, "only a\n1\nother\n2\nover", ("a",)), ("1",))

    def test_empty_texts(self):
        for text in ("", " ", "\n", "  \n \n\n", "only a\nover", "only a\n\nother\n \nover\n", "only a\nother\nover"):
            self.assertEqual(told_words(AB, text), ())
            self.assertEqual(words_where(AB, text, ("a",)), ())

    def test_one_fork(self):
        self.assertEqual(told_words(AB, "1\nonly a\n2 3\nover\n4"), (("1", YES), ("2", A), ("3", A), ("4", YES)))
        self.assertEqual(told_words(AB, "only a\n2\nother\n3\nover"), (("2", A), ("3", NOT_A)))
        self.assertEqual(told_words(AB, "only a\nother\n3\nover"), (("3", NOT_A),))
        self.assertEqual(told_words(AB, "only no\n2\nother\n3\nover"), (("2", NO), ("3", YES)))

    def test_forks_within_forks(self):
        text = "only a\n1\nonly b\n2\nother\n3\nover\n4\nother\nonly b\n5\nover\n6\nover\n7"
        self.assertEqual(conditions(AB, text), [
            A, ("split", "a", B, NO), ("split", "a", ("split", "b", NO, YES), NO), A, ("split", "a", NO, B), NOT_A, YES])
        self.assertEqual(conditions(AB, "only a\nonly not a\n1\nother\n2\nover\nover"), [NO, A])

    def test_words_that_fork_rows_begin_with_are_told_elsewhere(self):
        text = "x only a\nx over\n1 other\nonly a\nis over\nx other only\nover"
        self.assertEqual(told_words(AB, text), tuple((word, YES) for word in "x only a x over 1 other".split())
                         + tuple((word, A) for word in "is over x other only".split()))
        self.assertEqual(conditions(AB, "onlya\nover: 1\nOver"), [YES] * 4)

    def test_blanks_around_fork_rows(self):
        self.assertEqual(told_words(AB, "  only   not  a \n 1 \n  other \n 2\nover  "), (("1", NOT_A), ("2", A)))

    def test_conditions_hold_for_let_settings_alone(self):
        self.assertEqual(conditions(("house", ("a", "b"), ("is", "b")), "1\nonly a\n2\nother\n3\nover"),
                         [B, ("split", "a", B, NO), ("split", "a", NO, B)])
        self.assertEqual(conditions(NONE, "1\nonly a\n2\nother\n3\nover"), [NO, NO, NO])

    def test_any_characters(self):
        text = "".join(map(chr, range(33, 127)))
        self.assertEqual(told_words(AB, "x " + text), (("x", YES), (text, YES)))


class TestAgainstSlow(unittest.TestCase):
    def test_told_words(self):
        dice = dice_of(73)
        for house in HOUSES * 2 + tuple(random_house(dice, dice.randint(1, 4)) for _ in range(20)):
            for _ in range(6):
                text = random_text(dice, house, dice.randint(0, 9), dice.randint(0, 5))
                expected = slow_told(house, text)
                told = told_words(house, text)
                self.assertEqual([word for word, _ in told], [word for word, _ in expected])
                for (_, condition), (_, around) in zip(told, expected):
                    assert_told(self, house, condition, [
                        setting for setting in slow_let(house)
                        if all(slow_holds(each, setting) is is_first for each, is_first in around)])
                for setting in slow_all(house):
                    self.assertEqual(words_where(house, text, setting),
                                     tuple(word for _, word in slow_where(expected, setting)))

    def test_seven_switches(self):
        rows = []
        for at, s in enumerate(SEVEN[1]):
            rows += [f"only {s}", str(at)]
        text = "\n".join(rows + ["over"] * 7)
        for setting in slow_let(SEVEN):
            many = len(list(itertools.takewhile(lambda s: s in setting, SEVEN[1])))
            self.assertEqual(words_where(SEVEN, text, setting), tuple(map(str, range(many))))

    def test_many_rows(self):
        text = "\n".join(["only a"] * 400 + ["1"] + ["over"] * 400)
        self.assertLessEqual(len(text), 10000)
        self.assertEqual(told_words(AB, text), (("1", A),))
        text = "x " * 5000
        self.assertEqual(told_words(AB, text), (("x", YES),) * 5000)


class TestBadRows(unittest.TestCase):
    def assert_bad(self, text, at, house=AB):
        for function in (lambda: told_words(house, text), lambda: words_where(house, text, ()),
                         lambda: words_where(house, text, None)):
            with self.assertRaises(BadRows) as caught:
                function()
            self.assertEqual(caught.exception.at, at)

    def test_by_hand(self):
        self.assert_bad("only", 0)
        self.assert_bad("1\nonly c\n", 1)
        self.assert_bad("only a b\nover", 0)
        self.assert_bad("only not\nover", 0)
        self.assert_bad("over", 0)
        self.assert_bad("other", 0)
        self.assert_bad("only a\nover\nover", 2)
        self.assert_bad("only a\nother\nother\nover", 2)
        self.assert_bad("only a\nother x\nover", 1)
        self.assert_bad("only a\nover x", 1)
        self.assert_bad("only a\nover\nother", 2)
        self.assert_bad("only a\nonly b\nother\nover\nother\nother", 5)

    def test_forks_that_are_open_behind_all(self):
        self.assert_bad("only a", 1)
        self.assert_bad("only a\n", 2)
        self.assert_bad("only a\nother", 2)
        self.assert_bad("only a\nonly b\nover\n1\n\n", 6)
        self.assert_bad("x\nonly a\nother\nonly b\nother\nover", 6)

    def test_the_first_one_counts(self):
        self.assert_bad("only a\nover x\nonly c\nover", 1)
        self.assert_bad("only a\nonly c\nother y", 1)

    def test_against_slow(self):
        kinds = ("only a", "other", "over", "x", "only q", "over x")
        for many in range(1, 6):
            for rows in itertools.product(kinds, repeat=many):
                expected = bad_row(AB, list(rows))
                if expected is None:
                    self.assertEqual(len(told_words(AB, "\n".join(rows))), rows.count("x"))
                else:
                    with self.assertRaises(BadRows) as caught:
                        told_words(AB, "\n".join(rows))
                    self.assertEqual(caught.exception.at, expected, rows)


class TestRefused(unittest.TestCase):
    def test_errors_in_their_order(self):
        assert_judged(self, told_words, (AB, "x"), (0, (), BadHouse), (1, None, BadText), (1, "over", BadRows))
        assert_judged(self, words_where, (AB, "x", ()), (0, (), BadHouse), (1, None, BadText), (1, "over", BadRows),
                      (2, ("c",), BadSetting))

    def test_wrong_values(self):
        for bad in STRANGE:
            if not isinstance(bad, str):
                with self.assertRaises(BadText):
                    told_words(AB, bad)
                with self.assertRaises(BadText):
                    words_where(AB, bad, ())
            with self.assertRaises(BadHouse):
                told_words(bad, "x")
            if bad != ():
                with self.assertRaises(BadSetting):
                    words_where(AB, "x", bad)
        for bad in ("\t", "x\r\n", "\u00e4", "\x7f", "x\x0by"):
            with self.assertRaises(BadText):
                told_words(AB, bad)
        for bad in (["a"], ("b", "a"), ("a", "a"), ("c",), "a", None):
            with self.assertRaises(BadSetting):
                words_where(AB, "x", bad)


if __name__ == "__main__":
    unittest.main()

"""Point 26: texts that tell a line."""

import unittest

from manybuilds.branches import fewest_branches
from manybuilds.errors import BadHouse, BadLine
from manybuilds.forks import told_words
from manybuilds.least import least
from manybuilds.lines import same_builds
from manybuilds.linetexts import text_of
from manybuilds.readings import reading
from tests.helpers import (
    AB, HOUSES, NONE, OR, SEVEN, STRANGE, YES, assert_judged, dice_of, is_plain, num, plus, random_house, random_line,
    slow_choices, slow_holds, slow_let, slow_line_rows, slow_told, slow_where, when)
from tests.test_branches import branches_in, slow_fewest, word_masks
from tests.test_forks import A, NOT_A

LET = ("let", "x", num(1), plus(("name", "x"), when("a", ("set", "x", num(2)), ("name", "x"))))


def plain_text(line):
    """The words of the line with a fork for each choice."""
    return "\n".join(slow_line_rows(line))


class TestByHand(unittest.TestCase):
    def test_without_choices(self):
        for line, words in (
                (num(0), "0"), (num(999), "999"), (("truth", "yes"), "yes"), (("truth", "no"), "no"), (("name", "x"), "x"),
                (("let", "x", num(1), ("name", "x")), "let x: 1 in x"), (("set", "x", num(1)), "set x: 1"),
                (plus(num(1), num(2)), "plus 1 with 2"), (("less", num(1), num(2)), "less 1 than 2"),
                (("if", ("truth", "yes"), num(1), num(2)), "if yes then 1 else 2"), (("show", num(1)), "show 1"),
                (("then", num(1), num(2)), "first 1 next 2")):
            self.assertEqual(told_words(AB, text_of(AB, line)), tuple((word, YES) for word in words.split()))
            self.assertEqual(branches_in(text_of(AB, line)), 0)

    def test_choices(self):
        told = told_words(AB, text_of(AB, LET))
        self.assertEqual(told[:6], tuple((word, YES) for word in "let x: 1 in plus x".split()))
        self.assertEqual(told[6:], (("with", YES), ("set", A), ("x:", A), ("2", A), ("x", NOT_A)))

    def test_words_of_one_branch(self):
        line = plus(when("a", num(1), num(2)), num(3))
        self.assertEqual(branches_in(text_of(AB, line)), 2)
        # Side by side the first part for a of one and the second part of the other are apart.
        self.assertEqual(branches_in(text_of(AB, ("then", when("a", num(1), num(2)), when("a", num(3), num(4))))), 4)
        self.assertEqual(branches_in(text_of(AB, when("a", plus(num(1), when("b", num(2), num(3))), num(4)))), 4)

    def test_what_stands_for_none(self):
        line = when("a", when("a", num(1), num(2)), when("b", num(3), num(4)))
        self.assertEqual([word for word, _ in told_words(AB, text_of(AB, line))], ["1", "3", "4"])
        self.assertEqual([word for word, _ in told_words(OR, text_of(OR, line))], ["1", "3"])
        self.assertEqual(branches_in(text_of(AB, when("a", when("a", num(1), num(2)), num(3)))), 2)

    def test_no_let_setting(self):
        self.assertEqual(told_words(NONE, text_of(NONE, LET)), ())


class TestAgainstOthers(unittest.TestCase):
    def cases(self, seed, many):
        dice = dice_of(seed)
        for house in HOUSES + tuple(random_house(dice, dice.randint(1, 4)) for _ in range(8)):
            for _ in range(many):
                yield house, random_line(dice, house[1], dice.randint(1, 12), 0.5)

    def test_words_and_conditions(self):
        for house, line in self.cases(131, 8):
            told = told_words(house, text_of(house, line))
            plainly = slow_told(house, plain_text(line))
            expected = []
            for at, (word, _) in enumerate(plainly):
                settings = [s for s in slow_let(house) if (at, word) in slow_where(plainly, s)]
                if settings:
                    expected.append((word, settings))
            self.assertEqual([(word, [s for s in slow_let(house) if slow_holds(condition, s)]) for word, condition in told],
                             expected)
            self.assertTrue(all(is_plain(condition, house[1]) for _, condition in told))

    def test_fewest_branches(self):
        for house, line in self.cases(132, 8):
            text = text_of(house, line)
            self.assertEqual(branches_in(text), branches_in(fewest_branches(house, plain_text(line))))
            if len(slow_let(house)) < 5 and len(text.split()) < 60:
                let = (1 << len(slow_let(house))) - 1
                masks = word_masks(house, plain_text(line))
                if len(masks) < 12:
                    self.assertEqual(branches_in(text), slow_fewest(masks, let))

    def test_the_line_of_its_reading(self):
        chosen = 0
        for house, line in self.cases(133, 10):
            found, good, faults = reading(house, text_of(house, line))
            self.assertEqual(faults, ())
            if slow_let(house):
                self.assertEqual([s for s in slow_let(house) if slow_holds(good, s)], slow_let(house))
                self.assertTrue(same_builds(house, found, line))
                self.assertEqual(found, least(house, line))
                chosen += slow_choices(found) > 0
            else:
                self.assertIsNone(found)
        self.assertGreater(chosen, 30)

    def test_seven_switches(self):
        line = num(0)
        for at, s in enumerate(SEVEN[1]):
            line = plus(when(s, num(at), ("show", line)), num(1))
        found, _, faults = reading(SEVEN, text_of(SEVEN, line))
        self.assertEqual(faults, ())
        self.assertEqual(found, least(SEVEN, line))

    def test_long_lines(self):
        line = num(0)
        for _ in range(60):
            line = plus(when("a", num(1), num(2)), line)
        text = text_of(AB, line)
        self.assertEqual(branches_in(text), 120)
        self.assertEqual(len(told_words(AB, text)), 60 * 4 + 1)


class TestRefused(unittest.TestCase):
    def test_errors_in_their_order(self):
        assert_judged(self, text_of, (AB, LET), (0, (), BadHouse), (1, ("choice", "c", num(1), num(1)), BadLine))
        for bad in STRANGE:
            with self.assertRaises(BadHouse):
                text_of(bad, LET)
            with self.assertRaises(BadLine):
                text_of(AB, bad)


if __name__ == "__main__":
    unittest.main()

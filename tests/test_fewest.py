"""Point 43: all lines with the fewest choices."""

import functools
import unittest

from manybuilds.errors import BadHouse, BadLine, TooMany
from manybuilds.fewest import count_fewest, fewest_lines
from manybuilds.least import least
from tests.helpers import (
    AB, NONE, OR, SEVEN, SMALL, STRANGE, YES, assert_judged, dice_of, num, plus, random_house, random_line,
    slow_ahead, slow_builds, slow_choices, slow_lines, spoiled, when)

TREE = plus(when("a", num(1), num(2)), when("a", num(3), num(4)))


def slow_fewest(house, line):
    trees = slow_builds(house, line)
    if not trees:
        return ()
    most = slow_choices(least(house, line))
    found = [other for other in slow_lines(house[1], trees, most) if slow_choices(other) == most]
    return tuple(sorted(found, key=functools.cmp_to_key(lambda one, other: -1 if slow_ahead(house, one, other) else 1)))


def below_shows(s, levels):
    """A choice below so many shows: it may stand at each of their levels."""
    line = when(s, num(1), num(2))
    for _ in range(levels):
        line = ("show", line)
    return line


class TestFewest(unittest.TestCase):
    def test_by_hand(self):
        self.assertEqual(fewest_lines(AB, TREE), (when("a", plus(num(1), num(3)), plus(num(2), num(4))),))
        self.assertEqual(count_fewest(AB, TREE), 1)
        line = plus(when("a", num(1), num(2)), num(3))
        self.assertEqual(fewest_lines(AB, line), (line, when("a", plus(num(1), num(3)), plus(num(2), num(3)))))
        self.assertEqual(count_fewest(AB, line), 2)
        self.assertEqual(fewest_lines(AB, num(5)), (num(5),))

    def test_no_let_setting(self):
        self.assertEqual(fewest_lines(NONE, TREE), ())
        self.assertEqual(count_fewest(NONE, TREE), 0)

    def test_rules_let_more(self):
        house = ("house", ("a", "b"), ("split", "a", ("is", "b"), ("not", ("is", "b"))))
        self.assertEqual(fewest_lines(house, when("b", num(1), num(2))), (when("a", num(1), num(2)), when("b", num(1), num(2))))
        self.assertEqual(count_fewest(OR, when("a", num(1), num(2))), 1)

    def test_against_slow(self):
        dice = dice_of(23)
        several = 0
        for turn in range(260):
            house = dice.choice(SMALL) if turn % 2 else random_house(dice, dice.randint(1, 3))
            line = random_line(dice, house[1], dice.randint(4, 12), 0.5)
            if slow_choices(line) > 4:
                continue
            expected = slow_fewest(house, line)
            self.assertEqual(count_fewest(house, line), len(expected))
            if len(expected) <= 200:
                told = fewest_lines(house, line)
                self.assertEqual(told, expected)
                several += len(told) > 1
                if told:
                    self.assertEqual(told[0], least(house, line))
        self.assertGreater(several, 20)

    def test_too_many(self):
        self.assertEqual(count_fewest(AB, below_shows("a", 6)), 7)
        three = ("house", ("a", "b", "c"), YES)
        parts = [below_shows(s, 4) for s in "abc"]
        self.assertEqual(count_fewest(three, plus(parts[0], parts[1])), 25)
        wide = ("if", parts[0], parts[1], parts[2])
        self.assertEqual(count_fewest(three, wide), 125)
        self.assertEqual(len(fewest_lines(three, wide)), 125)
        wider = ("if", ("show", ("show", ("show", parts[0]))), parts[1], parts[2])
        self.assertEqual(count_fewest(three, wider), 200)
        self.assertEqual(len(fewest_lines(three, wider)), 200)
        widest = ("if", ("show", parts[0]), ("show", parts[1]), ("show", parts[2]))
        self.assertEqual(count_fewest(three, widest), 216)
        with self.assertRaises(TooMany) as caught:
            fewest_lines(three, widest)
        self.assertEqual(caught.exception.most, 200)
        with self.assertRaises(BadHouse):
            fewest_lines([], widest)
        with self.assertRaises(BadLine):
            fewest_lines(three, plus(widest, None))

    def test_just_one_too_many(self):
        self.assertEqual(count_fewest(AB, plus(below_shows("a", 3), below_shows("b", 49))), 200)
        self.assertEqual(len(fewest_lines(AB, plus(below_shows("a", 3), below_shows("b", 49)))), 200)
        # Where not both are on, either choice may also be pulled out of all with the other one below it.
        house = ("house", ("a", "b"), ("not", ("and", ("is", "a"), ("is", "b"))))
        line = plus(below_shows("a", 8), below_shows("b", 18))
        self.assertEqual(count_fewest(house, line), 9 * 19 + 20 + 10)
        with self.assertRaises(TooMany) as caught:
            fewest_lines(house, line)
        self.assertEqual(caught.exception.most, 200)

    def test_counts_of_any_size(self):
        line = num(0)
        for s in SEVEN[1]:
            line = plus(below_shows(s, 30), line)
        many = count_fewest(SEVEN, line)
        self.assertEqual(many % 31 ** 6, 0)
        self.assertGreater(many, 2 ** 31)

    def test_refused(self):
        for function in (fewest_lines, count_fewest):
            assert_judged(self, function, (AB, TREE), (0, [], BadHouse), (1, (), BadLine))
            for bad in STRANGE + tuple(spoiled(TREE)):
                with self.assertRaises(BadLine):
                    function(AB, bad)


if __name__ == "__main__":
    unittest.main()

"""Point 94: views, and views put back."""

import unittest

from manybuilds.errors import BadCondition, BadHouse, BadLine
from manybuilds.least import is_ahead, least
from manybuilds.lines import is_line
from manybuilds.views import put_back, view
from tests.helpers import (
    AB, NO, NONE, OR, SEVEN, SMALL, STRANGE, YES, assert_judged, decided, dice_of, num, plus, random_condition, random_house,
    random_line, slow_build, slow_builds, slow_first, slow_held, slow_holds, slow_let, when)

LINE = plus(when("a", num(1), num(2)), when("b", num(3), num(4)))


def cases(seed, many):
    """Houses, lines, conditions and parts."""
    dice = dice_of(seed)
    for house in SMALL + tuple(random_house(dice, dice.randint(1, 3)) for _ in range(12)):
        for _ in range(many):
            line, part = [random_line(dice, house[1], dice.randint(1, 7)) for _ in range(2)]
            yield house, line, random_condition(dice, house[1], dice.randint(1, 5)), part, dice


class TestByHand(unittest.TestCase):
    def test_view(self):
        self.assertEqual(view(AB, LINE, YES), LINE)
        self.assertEqual(view(AB, LINE, ("is", "a")), plus(num(1), when("b", num(3), num(4))))
        self.assertEqual(view(AB, LINE, ("and", ("is", "a"), ("not", ("is", "b")))), plus(num(1), num(4)))
        # Where just one of the two is on either choice can be made by the first switch.
        self.assertEqual(view(AB, LINE, ("split", "a", ("not", ("is", "b")), ("is", "b"))),
                         when("a", plus(num(1), num(4)), plus(num(2), num(3))))

    def test_view_of_nothing(self):
        self.assertEqual(view(AB, LINE, NO), num(0))
        self.assertEqual(view(OR, LINE, ("and", ("not", ("is", "a")), ("not", ("is", "b")))), num(0))
        self.assertEqual(view(NONE, LINE, YES), num(0))

    def test_put_back(self):
        self.assertEqual(put_back(AB, LINE, YES, num(5)), num(5))
        self.assertEqual(put_back(AB, LINE, NO, num(5)), LINE)
        self.assertEqual(put_back(AB, LINE, ("is", "a"), plus(num(1), num(4))),
                         when("a", plus(num(1), num(4)), plus(num(2), when("b", num(3), num(4)))))
        self.assertEqual(put_back(AB, when("a", num(1), num(2)), ("is", "b"), when("a", num(3), num(2))),
                         when("a", when("b", num(3), num(1)), num(2)))
        self.assertEqual(put_back(NONE, LINE, YES, num(5)), num(0))

    def test_settings_that_are_not_let_do_not_count(self):
        self.assertEqual(put_back(OR, num(1), ("not", ("is", "b")), num(2)), when("b", num(1), num(2)))
        self.assertEqual(put_back(OR, num(1), ("and", ("not", ("is", "a")), ("not", ("is", "b"))), num(2)), num(1))


class TestAgainstSlow(unittest.TestCase):
    def test_view(self):
        for house, line, condition, _, _ in cases(41, 6):
            trees = {setting: slow_build(line, setting) for setting in slow_held(house, condition)}
            found = view(house, line, condition)
            self.assertTrue(is_line(house, found))
            self.assertEqual(found, slow_first(house, trees), (house, line, condition))

    def test_put_back(self):
        for house, line, condition, part, _ in cases(42, 6):
            trees = slow_builds(house, line)
            trees.update({setting: slow_build(part, setting) for setting in slow_held(house, condition)})
            found = put_back(house, line, condition, part)
            self.assertEqual(slow_builds(house, found), trees)
            self.assertEqual(found, least(house, decided(house, trees)))

    def test_put_back_by_a_search_of_its_own(self):
        for house, line, condition, part, _ in cases(43, 2):
            trees = slow_builds(house, line)
            trees.update({setting: slow_build(part, setting) for setting in slow_held(house, condition)})
            if len(trees) < 5:
                self.assertEqual(put_back(house, line, condition, part), slow_first(house, trees))


class TestAgainstEachOther(unittest.TestCase):
    def test_put_back_unchanged(self):
        for house, line, condition, _, _ in cases(44, 6):
            self.assertEqual(put_back(house, line, condition, view(house, line, condition)), least(house, line))

    def test_what_is_put_back_is_seen(self):
        for house, line, condition, part, _ in cases(45, 6):
            changed = put_back(house, line, condition, part)
            self.assertEqual(view(house, changed, condition), view(house, part, condition))
            self.assertEqual(view(house, changed, ("not", condition)), view(house, line, ("not", condition)))

    def test_a_view_is_no_greater_than_the_least_line(self):
        for house, line, condition, _, _ in cases(46, 3):
            self.assertFalse(is_ahead(house, least(house, line), view(house, line, condition)))
            self.assertEqual(view(house, line, YES), least(house, line))

    def test_the_later_one_counts(self):
        for house, line, condition, part, dice in cases(47, 3):
            later = random_line(dice, house[1], 5)
            both = put_back(house, put_back(house, line, condition, part), condition, later)
            self.assertEqual(both, put_back(house, line, condition, later))

    def test_in_either_order_exactly_if_equal_where_both_hold(self):
        agreed = 0
        for house, line, condition, part, dice in cases(48, 8):
            further = random_condition(dice, house[1], 3)
            other = dice.choice((random_line(dice, house[1], 3), part, when(house[1][0], part, num(9))))
            one_way = put_back(house, put_back(house, line, condition, part), further, other)
            other_way = put_back(house, put_back(house, line, further, other), condition, part)
            alike = all(slow_build(part, setting) == slow_build(other, setting) for setting in slow_let(house)
                        if slow_holds(condition, setting) and slow_holds(further, setting))
            self.assertIs(one_way == other_way, alike)
            agreed += alike
        self.assertGreater(agreed, 20)

    def test_the_way_of_writing_does_not_count(self):
        for house, line, condition, part, _ in cases(49, 3):
            told = view(house, line, condition)
            self.assertEqual(view(house, least(house, line), ("and", condition, house[2])), told)
            self.assertEqual(put_back(house, least(house, line), condition, least(house, part)),
                             put_back(house, line, condition, part))

    def test_seven_switches(self):
        switches = SEVEN[1]
        line = num(0)
        for s in switches:
            line = plus(when(s, num(1), num(2)), line)
        self.assertEqual(view(SEVEN, line, YES), line)
        some = ("and", ("is", "g"), ("not", ("is", "a")))
        self.assertEqual(put_back(SEVEN, line, some, view(SEVEN, line, some)), line)


class TestRefused(unittest.TestCase):
    def test_errors_in_their_order(self):
        assert_judged(self, view, (AB, LINE, YES), (0, (), BadHouse), (1, (), BadLine), (2, (), BadCondition))
        assert_judged(self, put_back, (AB, LINE, YES, LINE), (0, (), BadHouse), (1, (), BadLine), (2, (), BadCondition),
                      (3, (), BadLine))

    def test_wrong_values(self):
        for bad in STRANGE:
            for error, values in ((BadHouse, (bad, LINE, YES)), (BadLine, (AB, bad, YES))):
                with self.assertRaises(error):
                    view(*values)
                with self.assertRaises(error):
                    put_back(*values, LINE)
            with self.assertRaises(BadLine):
                put_back(AB, LINE, YES, bad)
            if bad != YES:
                with self.assertRaises(BadCondition):
                    view(AB, LINE, bad)
                with self.assertRaises(BadCondition):
                    put_back(AB, LINE, bad, LINE)


if __name__ == "__main__":
    unittest.main()

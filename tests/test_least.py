"""Points 40 and 41: the order and least lines."""

import itertools
import unittest

from manybuilds.errors import BadHouse, BadLine
from manybuilds.least import is_ahead, least
from manybuilds.lines import same_builds, stands
from tests.helpers import (
    AB, HOUSES, NO, NONE, ODD, ONE, OR, SEVEN, SMALL, STRANGE, YES, assert_judged, decided, dice_of, num, plus,
    random_house, random_line, slow_ahead, slow_build, slow_builds, slow_choices, slow_least, slow_let, slow_nodes,
    slow_paths, spoiled, when)

TREE = plus(when("a", num(1), num(2)), when("a", num(3), num(4)))


def small_lines(switches, nodes):
    """All lines of a few kinds with at most so many nodes, by their number of nodes."""
    by_size = {1: [num(0), num(1)]}
    for size in range(2, nodes + 1):
        lines = [("show", part) for part in by_size[size - 1]]
        for left in range(1, size - 1):
            for one, other in itertools.product(by_size[left], by_size[size - 1 - left]):
                lines.append(plus(one, other))
                lines += [when(s, one, other) for s in switches]
        by_size[size] = lines
    return [line for size in range(1, nodes + 1) for line in by_size[size]]


class TestOrder(unittest.TestCase):
    def assert_order(self, house, lines):
        for at, one in enumerate(lines):
            for later, other in enumerate(lines):
                self.assertIs(is_ahead(house, one, other), at < later, (one, other))

    def test_fewer_choices_first(self):
        self.assert_order(AB, [plus(num(9), plus(num(9), num(9))), when("b", num(1), num(1)),
                               plus(when("b", num(9), num(9)), num(1)), when("a", num(0), when("a", num(0), num(0)))])

    def test_then_fewer_nodes(self):
        self.assert_order(AB, [("name", "z"), ("show", num(0)), plus(num(0), num(0)), ("if", num(0), num(0), num(0))])

    def test_tags(self):
        one = num(5)
        self.assert_order(AB, [num(999), ("truth", "no"), ("name", "a")])
        self.assert_order(AB, [("set", "z", one), ("show", one)])
        self.assert_order(AB, [("let", "z", one, one), plus(one, one), ("less", one, one), ("then", one, one)])
        self.assert_order(AB, [("let", "z", one, when("a", one, one)), plus(one, when("a", one, one)),
                               ("less", one, when("a", one, one)), ("then", one, when("a", one, one)),
                               when("a", one, ("let", "x", one, one))])
        self.assert_order(AB, [("if", one, one, one), ("show", plus(one, one)), ("then", one, ("show", one))])
        self.assert_order(AB, [("set", "x", plus(one, one)), plus(one, ("show", one)), ("if", one, one, one)])

    def test_details(self):
        self.assert_order(AB, [num(2), num(10), num(100), ("truth", "yes"), ("truth", "no"), ("name", "a"), ("name", "ab"),
                               ("name", "b"), ("name", "ba")])
        self.assert_order(AB, [("let", "a", num(1), num(1)), ("let", "b", num(0), num(0))])
        self.assert_order(AB, [("set", "ab", num(1)), ("set", "b", num(0))])

    def test_switches_in_the_order_of_the_house(self):
        one, other = when("a", num(1), num(1)), when("b", num(0), num(0))
        self.assertIs(is_ahead(AB, one, other), True)
        self.assertIs(is_ahead(("house", ("b", "a"), YES), one, other), False)
        self.assertIs(is_ahead(("house", ("b", "a"), YES), other, one), True)

    def test_reading_order(self):
        self.assert_order(AB, [plus(num(1), plus(num(9), num(9))), plus(num(2), plus(num(0), num(0))),
                               plus(plus(num(0), num(0)), num(0))])
        self.assert_order(AB, [("less", num(1), num(3)), ("less", num(2), num(0))])
        self.assert_order(AB, [when("a", num(1), num(3)), when("a", num(2), num(0))])

    def test_against_slow(self):
        dice = dice_of(14)
        for _ in range(600):
            house = dice.choice(HOUSES)
            size = dice.randint(1, 6)
            one, other = random_line(dice, house[1], size), random_line(dice, house[1], size)
            self.assertIs(is_ahead(house, one, other), slow_ahead(house, one, other))
            self.assertIs(is_ahead(house, one, one), False)
            if one != other:
                self.assertIs(is_ahead(house, other, one), not is_ahead(house, one, other))

    def test_refused(self):
        assert_judged(self, is_ahead, (AB, num(1), num(2)), (0, None, BadHouse), (1, num(1000), BadLine), (2, [], BadLine))
        for bad in tuple(spoiled(when("a", num(1), num(0)))) + STRANGE:
            with self.assertRaises(BadLine):
                is_ahead(AB, bad, num(1))
            with self.assertRaises(BadLine):
                is_ahead(AB, num(1), bad)


class TestLeast(unittest.TestCase):
    def test_by_hand(self):
        pulled = when("a", plus(num(1), num(3)), plus(num(2), num(4)))
        self.assertEqual(least(AB, TREE), pulled)
        pushed = plus(when("a", num(1), num(2)), when("b", num(3), num(4)))
        self.assertEqual(least(AB, pushed), pushed)
        self.assertEqual(least(AB, decided(AB, slow_builds(AB, pushed))), pushed)
        self.assertEqual(least(AB, when("a", when("b", num(1), num(2)), when("b", num(1), num(2)))), when("b", num(1), num(2)))
        self.assertEqual(least(AB, when("a", num(1), when("a", num(2), num(3)))), when("a", num(1), num(3)))

    def test_no_let_setting(self):
        for line in (num(3), TREE, ("name", "x")):
            self.assertEqual(least(NONE, line), num(0))

    def test_the_rule_counts(self):
        self.assertEqual(least(("house", ("a", "b"), ("is", "a")), when("a", num(1), num(2))), num(1))
        alike = ("house", ("a", "b"), ("split", "a", ("is", "b"), ("not", ("is", "b"))))
        self.assertEqual(least(alike, when("b", num(1), num(2))), when("a", num(1), num(2)))
        self.assertEqual(least(OR, when("a", num(1), when("b", num(2), num(3)))), when("a", num(1), num(2)))

    def test_against_a_slow_search(self):
        dice = dice_of(15)
        for house in SMALL:
            for _ in range(60):
                line = random_line(dice, house[1], dice.randint(1, 14), 0.5)
                if slow_choices(line) <= 5:
                    self.assertEqual(least(house, line), slow_least(house, line))

    def test_against_a_slow_search_in_other_houses(self):
        dice = dice_of(16)
        for _ in range(150):
            house = random_house(dice, dice.randint(1, 3))
            line = random_line(dice, house[1], dice.randint(5, 16), 0.5)
            if slow_choices(line) <= 5:
                self.assertEqual(least(house, line), slow_least(house, line))

    def test_against_all_small_lines(self):
        houses = (ONE, ("house", ("b", "a"), YES), OR, NONE, ODD, ("house", ("a", "b"), ("is", "b")))
        for house in houses:
            nodes = 7 if len(house[1]) < 3 else 5
            settings = slow_let(house)
            first, lines_by_builds = {}, {}
            for line in small_lines(house[1], nodes):
                trees = tuple(slow_build(line, setting) for setting in settings)
                if trees not in first or slow_ahead(house, line, first[trees]):
                    first[trees] = line
                lines_by_builds.setdefault(trees, []).append(line)
            for trees, line in first.items():
                for alike in lines_by_builds[trees][:3] + lines_by_builds[trees][-2:]:
                    self.assertEqual(least(house, alike), line if settings else num(0))

    def test_alike_exactly_if_equal(self):
        dice = dice_of(17)
        for house in HOUSES:
            lines = [random_line(dice, house[1], dice.randint(1, 9), 0.6) for _ in range(25)]
            for one, other in itertools.combinations(lines, 2):
                self.assertIs(least(house, one) == least(house, other), same_builds(house, one, other))

    def test_the_way_of_writing_does_not_count(self):
        dice = dice_of(18)
        for house in HOUSES:
            for _ in range(10):
                line = random_line(dice, house[1], 15, 0.5)
                written = decided(house, slow_builds(house, line))
                told = least(house, line)
                self.assertEqual(least(house, written), told)
                self.assertEqual(least(house, told), told)
                self.assertTrue(same_builds(house, line, told))
                self.assertFalse(slow_ahead(house, line, told))

    def test_facts_of_least_lines(self):
        dice = dice_of(19)
        for house in HOUSES:
            for _ in range(15):
                told = least(house, random_line(dice, house[1], 25, 0.5))
                for path, node in slow_paths(told).items():
                    if node[0] == "choice":
                        self.assertNotEqual(stands(house, told, path + (2,)), NO)
                        self.assertNotEqual(stands(house, told, path + (3,)), NO)
                        self.assertNotEqual(node[2], node[3])

    def test_seven_switches(self):
        line = num(0)
        for s in SEVEN[1]:
            line = plus(when(s, num(1), num(2)), line)
        self.assertEqual(least(SEVEN, line), line)
        self.assertEqual(least(SEVEN, decided(SEVEN, slow_builds(SEVEN, line))), line)
        twice = plus(line, line)
        self.assertEqual(slow_choices(least(SEVEN, twice)), 14)

    def test_long_and_deep(self):
        line = num(0)
        for level in range(56):
            line = plus(when("ab"[level % 2], num(level), num(99)), line)
        told = least(AB, line)
        self.assertTrue(same_builds(AB, line, told))
        self.assertEqual(slow_choices(told), 3)
        # The outermost choice is of b: the one of a is pushed in below the outermost plus.
        self.assertEqual(len(slow_nodes(told)), 3 + 2 * 2 + 4 * 111)

    def test_refused(self):
        assert_judged(self, least, (AB, TREE), (0, None, BadHouse), (1, when("c", num(1), num(2)), BadLine))
        for bad in tuple(spoiled(TREE)) + STRANGE:
            with self.assertRaises(BadLine):
                least(AB, bad)


if __name__ == "__main__":
    unittest.main()

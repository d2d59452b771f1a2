"""Point 45: enough switches."""

import itertools
import unittest

from manybuilds.enough import differences, enough_lots, is_enough, least_with
from manybuilds.errors import BadHouse, BadLine, BadLot, NotEnough
from manybuilds.least import least
from tests.helpers import (
    AB, HOUSES, NONE, ODD, OR, SEVEN, STRANGE, assert_judged, dice_of, num, plus, random_house, random_line,
    slow_ahead, slow_builds, slow_choices, slow_lines, slow_nodes, spoiled, when)

LINE = when("a", num(1), when("b", num(2), num(3)))


def slow_lots(house):
    return [lot for size in range(len(house[1]) + 1) for lot in itertools.combinations(house[1], size)]


def slow_enough(house, line, lot):
    trees = slow_builds(house, line)
    return all(trees[one] == trees[other] for one in trees for other in trees
               if [s for s in lot if s in one] == [s for s in lot if s in other])


def least_lots(lots):
    return tuple(lot for lot in lots if not any(set(other) < set(lot) for other in lots))


def slow_differences(house, line):
    trees = slow_builds(house, line)
    found = {frozenset(one) ^ frozenset(other) for one in trees for other in trees if trees[one] != trees[other]}
    return [lot for lot in slow_lots(house) if frozenset(lot) in found]


class TestEnough(unittest.TestCase):
    def test_by_hand(self):
        self.assertEqual(enough_lots(AB, LINE), (("a", "b"),))
        self.assertEqual(differences(AB, LINE), (("a",), ("b",)))
        self.assertEqual(enough_lots(OR, LINE), (("a",),))
        self.assertEqual(differences(OR, LINE), (("a",),))
        self.assertIs(is_enough(AB, LINE, ("a",)), False)
        self.assertIs(is_enough(OR, LINE, ("a",)), True)
        self.assertIs(is_enough(OR, LINE, ("b",)), False)
        self.assertIs(is_enough(AB, num(1), ()), True)

    def test_nothing_to_tell_apart(self):
        for house, line in ((AB, num(1)), (NONE, LINE), (AB, when("a", num(1), num(1)))):
            self.assertEqual(enough_lots(house, line), ((),))
            self.assertEqual(differences(house, line), ())

    def test_either_of_two(self):
        house = ("house", ("b", "a"), ("split", "a", ("is", "b"), ("not", ("is", "b"))))
        line = when("a", num(1), num(2))
        self.assertEqual(enough_lots(house, line), (("b",), ("a",)))
        self.assertEqual(differences(house, line), (("b", "a"),))
        self.assertEqual(least_with(house, line, ("a",)), line)
        self.assertEqual(least_with(house, line, ("b",)), when("b", num(1), num(2)))

    def test_against_slow(self):
        dice = dice_of(28)
        for turn in range(150):
            house = dice.choice(HOUSES) if turn % 2 else random_house(dice, dice.randint(1, 5))
            line = random_line(dice, house[1], dice.randint(3, 18), 0.6)
            lots = [lot for lot in slow_lots(house) if slow_enough(house, line, lot)]
            self.assertEqual(enough_lots(house, line), least_lots(lots))
            self.assertEqual(differences(house, line), least_lots(slow_differences(house, line)))
            for lot in slow_lots(house):
                self.assertIs(is_enough(house, line, lot), lot in lots)

    def test_mirror(self):
        dice = dice_of(29)
        for turn in range(60):
            house = dice.choice(HOUSES) if turn % 2 else random_house(dice, dice.randint(3, 6))
            line = random_line(dice, house[1], 20, 0.6)
            enough, unlike = enough_lots(house, line), differences(house, line)
            for lot in slow_lots(house):
                self.assertIs(is_enough(house, line, lot), all(set(lot) & set(other) for other in unlike))
                self.assertIs(any(set(other) <= set(lot) for other in unlike), all(set(lot) & set(other) for other in enough))

    def test_least_with_against_slow(self):
        dice = dice_of(30)
        done = 0
        for turn in range(200):
            house = dice.choice(HOUSES) if turn % 2 else random_house(dice, dice.randint(2, 3))
            line = random_line(dice, house[1], dice.randint(3, 12), 0.6)
            if len(house[1]) > 3 or slow_choices(line) > 3 or not slow_builds(house, line):
                continue
            for lot in slow_lots(house):
                if not slow_enough(house, line, lot):
                    with self.assertRaises(NotEnough):
                        least_with(house, line, lot)
                    continue
                told = least_with(house, line, lot)
                found = [other for other in slow_lines(lot, slow_builds(house, line), slow_choices(told))]
                self.assertIn(told, found)
                self.assertFalse(any(slow_ahead(house, other, told) for other in found))
                self.assertTrue(all(node[1] in lot for node in slow_nodes(told) if node[0] == "choice"))
                done += 1
            self.assertEqual(least_with(house, line, house[1]), least(house, line))
        self.assertGreater(done, 50)

    def test_no_let_setting(self):
        self.assertEqual(least_with(NONE, LINE, ()), num(0))
        self.assertIs(is_enough(NONE, LINE, ()), True)

    def test_the_least_line_may_have_more_switches(self):
        # Pushed in one choice of c tells what two choices of a and b must tell elsewhere.
        house = ("house", ("a", "b", "c"), ("split", "c", ("and", ("is", "a"), ("is", "b")),
                                            ("not", ("and", ("is", "a"), ("is", "b")))))
        line = when("a", when("b", num(1), num(2)), num(2))
        self.assertEqual(least(house, line), when("c", num(1), num(2)))
        self.assertEqual(least_with(house, line, ("a", "b")), line)
        self.assertEqual(enough_lots(house, line), (("c",), ("a", "b")))

    def test_seven_switches(self):
        line = num(0)
        for s in SEVEN[1][::2]:
            line = plus(when(s, num(1), num(2)), line)
        self.assertEqual(enough_lots(SEVEN, line), (SEVEN[1][::2],))
        self.assertEqual(differences(SEVEN, line), tuple((s,) for s in SEVEN[1][::2]))
        self.assertEqual(least_with(SEVEN, line, SEVEN[1][::2]), line)
        with self.assertRaises(NotEnough):
            least_with(SEVEN, line, SEVEN[1][1:])

    def test_refused(self):
        for function in (is_enough, least_with):
            assert_judged(self, function, (ODD, LINE, ("a", "b", "c")), (0, (), BadHouse), (1, (), BadLine),
                          (2, ("b", "a"), BadLot))
            for bad in STRANGE + (("a", "a"), ["a"], ("b", "a"), ("c",), "a", ("a", None), ("a", ("b",))):
                if bad != ():
                    with self.assertRaises(BadLot):
                        function(AB, LINE, bad)
            for bad in spoiled(("a", "b")):
                with self.assertRaises(BadLot):
                    function(AB, LINE, bad)
        for function in (enough_lots, differences):
            assert_judged(self, function, (ODD, LINE), (0, (), BadHouse), (1, (), BadLine))
            for bad in STRANGE:
                with self.assertRaises(BadLine):
                    function(AB, bad)
        with self.assertRaises(BadLot):
            least_with(AB, LINE, ("b", "b"))


if __name__ == "__main__":
    unittest.main()

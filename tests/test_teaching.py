"""Point 103, and what point 104 says of it: which builds teach a line."""

import itertools
import unittest

from manybuilds.copies import joined
from manybuilds.errors import BadHouse, BadLine, BadLot, TooMany
from manybuilds.least import least
from manybuilds.teaching import teaches, teaching
from tests.helpers import (
    AB, NONE, OR, SEVEN, SMALL, STRANGE, YES, assert_judged, dice_of, num, plus, random_house, random_line, slow_build,
    slow_builds, slow_first, slow_let, spoiled, when)

THREE = ("house", ("a", "b", "c"), YES)
FOUR = ("house", ("a", "b", "c", "d"), ("or", ("is", "d"), ("and", ("is", "a"), ("and", ("is", "b"), ("is", "c")))))


def lots_of(house):
    """() and all lots of let settings: fewer settings first, then ascending by places."""
    settings = slow_let(house)
    return [lot for size in range(len(settings) + 1) for lot in itertools.combinations(settings, size)]


def slow_teaches(house, line, lot):
    found = slow_first(house, {setting: slow_build(line, setting) for setting in lot})
    return slow_builds(house, found) == slow_builds(house, line)


def slow_teaching(house, line):
    """All lots that teach, while none does that lacks one of their settings."""
    found = []
    for lot in lots_of(house):
        if slow_teaches(house, line, lot):
            fewer = [lot[:at] + lot[at + 1:] for at in range(len(lot))]
            if not any(slow_teaches(house, line, less) for less in fewer):
                found.append(lot)
    return tuple(found)


class TestByHand(unittest.TestCase):
    def test_example(self):
        line = when("b", num(1), num(2))
        self.assertIs(teaches(AB, when("a", num(1), num(2)), ((), ("a", "b"))), True)
        self.assertIs(teaches(AB, line, ((), ("a", "b"))), False)
        self.assertIs(teaches(AB, line, ((), ("b",))), True)
        self.assertIn(((), ("b",)), teaching(AB, line))
        self.assertEqual(teaching(AB, num(0)), ((),))
        self.assertEqual(teaching(AB, num(5)), (((),), (("b",),), (("a",),), (("a", "b"),)))
        self.assertIs(teaches(AB, num(0), ()), True)
        self.assertIs(teaches(AB, num(5), ()), False)

    def test_all_that_teach_the_first_switch(self):
        self.assertEqual(teaching(AB, when("a", num(1), num(2))),
                         (((), ("a",)), ((), ("a", "b")), (("b",), ("a",)), (("b",), ("a", "b"))))

    def test_no_let_setting(self):
        self.assertEqual(teaching(NONE, num(5)), ((),))
        self.assertIs(teaches(NONE, num(5), ()), True)

    def test_just_let_settings_count(self):
        self.assertEqual(teaching(OR, num(5)), ((("b",),), (("a",),), (("a", "b"),)))
        self.assertEqual(teaching(OR, when("a", num(1), num(2)))[0], (("b",), ("a",)))

    def test_by_more_than_a_least_lot(self):
        self.assertIs(teaches(AB, num(5), ((), ("b",), ("a",), ("a", "b"))), True)
        self.assertEqual(len(teaching(AB, num(5))), 4)


class TestAgainstSlow(unittest.TestCase):
    def test_teaches_and_teaching(self):
        dice = dice_of(61)
        for house in SMALL + (OR, AB) * 4 + tuple(random_house(dice, dice.randint(1, 3)) for _ in range(6)):
            if len(slow_let(house)) > 5:
                continue
            for _ in range(4):
                line = random_line(dice, house[1], dice.randint(1, 8), 0.7)
                for lot in lots_of(house):
                    self.assertIs(teaches(house, line, lot), slow_teaches(house, line, lot), (house, line, lot))
                self.assertEqual(teaching(house, line), slow_teaching(house, line), (house, line))

    def test_eight_settings(self):
        for line in (when("a", num(1), num(2)), when("b", num(1), when("c", num(2), num(3)))):
            found = teaching(THREE, line)
            self.assertEqual(list(found), sorted(found, key=lots_of(THREE).index))
            for lot in lots_of(THREE):
                within = any(set(known) <= set(lot) for known in found)
                self.assertIs(teaches(THREE, line, lot), within)


class TestAgainstEachOther(unittest.TestCase):
    def test_what_has_a_teaching_lot_within_teaches(self):
        dice = dice_of(62)
        for house in SMALL:
            for _ in range(4):
                line = random_line(dice, house[1], dice.randint(1, 8), 0.6)
                found = teaching(house, line)
                self.assertEqual(list(found), sorted(found, key=lots_of(house).index))
                for lot in lots_of(house):
                    taught = teaches(house, line, lot)
                    self.assertIs(taught, any(set(known) <= set(lot) for known in found))
                    copies = tuple((setting, slow_build(line, setting)) for setting in lot)
                    self.assertIs(taught, joined(house, copies) == least(house, line))

    def test_all_let_settings_teach(self):
        dice = dice_of(63)
        for house in SMALL + (SEVEN,):
            line = random_line(dice, house[1], 9)
            self.assertIs(teaches(house, line, tuple(slow_let(house))), True)


class TestRefused(unittest.TestCase):
    def test_errors_in_their_order(self):
        assert_judged(self, teaches, (AB, num(5), ((),)), (0, (), BadHouse), (1, (), BadLine), (2, [], BadLot))
        assert_judged(self, teaching, (AB, num(5)), (0, (), BadHouse), (1, (), BadLine))

    def test_what_is_no_lot(self):
        lot = ((), ("b",), ("a", "b"))
        self.assertIs(teaches(AB, num(5), lot), True)
        wrong = [thing for thing in STRANGE if thing not in ((), ((),))] + list(spoiled(lot))
        wrong += [(("b",), ()), (("b",), ("b",)), (("b", "a"),), (("c",),), (("a",), ("b",)), ("a",), ("a", "b")]
        for thing in wrong:
            with self.assertRaises(BadLot):
                teaches(AB, num(5), thing)
        with self.assertRaises(BadLot):
            teaches(OR, num(5), ((),))
        with self.assertRaises(BadLot):
            teaches(NONE, num(5), (("a",),))

    def test_too_many(self):
        self.assertEqual(len(slow_let(FOUR)), 9)
        eight = FOUR[:2] + (("is", "d"),)
        self.assertEqual(len(teaching(eight, num(5))), 8)
        with self.assertRaises(TooMany) as caught:
            teaching(FOUR, num(5))
        self.assertEqual(caught.exception.most, 8)
        self.assertIs(teaches(FOUR, plus(num(5), num(1)), (("d",),)), True)
        for values, error in (((FOUR, ()), BadLine), ((FOUR[:2], num(5)), BadHouse)):
            with self.assertRaises(error):
                teaching(*values)


if __name__ == "__main__":
    unittest.main()

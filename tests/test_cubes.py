"""Point 8: cubes, reasons and bans."""

import itertools
import time
import unittest

from manybuilds.conditions import plain
from manybuilds.cubes import bans, is_reason, reasons
from manybuilds.errors import BadCondition, BadHouse, TooMany
from tests.helpers import (
    AB, HOUSES, NO, NONE, OR, SEVEN, STRANGE, YES, assert_judged, dice_of, random_condition, random_house,
    slow_held, slow_let, spoiled)


def slow_cubes(switches):
    """All cubes in order."""
    cubes = []
    for sides in itertools.product((0, 1, 2), repeat=len(switches)):
        on = tuple(s for s, side in zip(switches, sides) if side == 1)
        off = tuple(s for s, side in zip(switches, sides) if side == 2)
        cubes.append((on, off))

    def place(cube):
        return (len(cube[0] + cube[1]), [switches.index(s) for s in cube[0]], [switches.index(s) for s in cube[1]])
    return sorted(cubes, key=place)


def lies_in(setting, cube):
    return all(s in setting for s in cube[0]) and not any(s in setting for s in cube[1])


def slow_reasons(house, condition):
    """Cubes that vouch for the condition, while no cube that lacks any lot of their switches does."""
    held = slow_held(house, condition)
    vouching = []
    for cube in slow_cubes(house[1]):
        inside = [setting for setting in slow_let(house) if lies_in(setting, cube)]
        if inside and all(setting in held for setting in inside):
            if not any(set(wide[0]) <= set(cube[0]) and set(wide[1]) <= set(cube[1]) for wide in vouching):
                vouching.append(cube)
    return tuple(vouching)


def parity(switches):
    """A condition that holds if an odd number of switches is on."""
    condition = NO
    for s in switches:
        condition = ("split", s, ("not", condition), condition)
    return condition


def at_least(switches, many):
    """A condition that holds if at least so many of the switches are on."""
    if many <= 0:
        return YES
    if len(switches) < many:
        return NO
    return ("split", switches[0], at_least(switches[1:], many - 1), at_least(switches[1:], many))


def exactly(switches, setting):
    """A condition that holds for this setting alone."""
    condition = YES
    for s in switches:
        condition = ("and", condition, ("is", s) if s in setting else ("not", ("is", s)))
    return condition


class TestCubes(unittest.TestCase):
    def test_by_hand(self):
        self.assertEqual(reasons(OR, ("is", "b")), (((), ("a",)), (("b",), ())))
        self.assertEqual(bans(OR, ("is", "b")), (((), ("b",)),))
        self.assertEqual(reasons(AB, YES), (((), ()),))
        self.assertEqual(reasons(AB, NO), ())
        self.assertEqual(bans(AB, YES), ())
        self.assertEqual(reasons(NONE, YES), ())
        self.assertEqual(bans(NONE, YES), ())

    def test_against_slow(self):
        dice = dice_of(6)
        for house in HOUSES + tuple(random_house(dice, dice.randint(1, 4)) for _ in range(30)):
            for _ in range(6):
                condition = random_condition(dice, house[1], dice.randint(1, 9))
                expected = slow_reasons(house, condition)
                self.assertEqual(reasons(house, condition), expected)
                self.assertEqual(bans(house, condition), slow_reasons(house, ("not", condition)))
                for cube in slow_cubes(house[1]):
                    self.assertIs(is_reason(house, condition, cube), cube in expected)

    def test_mirror(self):
        dice = dice_of(7)
        for house in HOUSES:
            for _ in range(10):
                condition = random_condition(dice, house[1], dice.randint(1, 9))
                held = slow_held(house, condition)
                for setting in slow_let(house):
                    self.assertEqual(any(lies_in(setting, cube) for cube in reasons(house, condition)), setting in held)
                    self.assertEqual(all(not lies_in(setting, cube) for cube in bans(house, condition)), setting in held)

    def test_is_reason_of_any_value(self):
        condition = ("is", "b")
        for thing in STRANGE:
            self.assertIs(is_reason(OR, condition, thing), False, thing)
        for reason in reasons(OR, condition):
            for wrong in spoiled(reason):
                self.assertIs(is_reason(OR, condition, wrong), False, wrong)
        for thing in ((("b",),), (("b",), (), ()), (("b",), ("a",)), (("q",), ()), (("b", "b"), ()), (("b",), ("b",)),
                      ((), ("b",)), ((), ()), ("b", ())):
            self.assertIs(is_reason(OR, condition, thing), False, thing)
        three = ("house", ("a", "b", "c"), YES)
        both = ("and", ("is", "a"), ("is", "c"))
        self.assertIs(is_reason(three, both, (("a", "c"), ())), True)
        self.assertIs(is_reason(three, both, (("c", "a"), ())), False)
        self.assertIs(is_reason(three, both, (("a", "c"), ("b",))), False)

    def test_a_reason_holds_a_let_setting(self):
        house = ("house", ("a", "b"), ("not", ("is", "a")))
        self.assertIs(is_reason(house, YES, ((), ())), True)
        self.assertIs(is_reason(house, ("is", "b"), (("a",), ())), False)
        self.assertEqual(reasons(house, ("is", "b")), ((("b",), ()),))

    def test_order(self):
        three = ("house", ("c", "b", "a"), YES)
        condition = ("or", ("is", "a"), ("or", ("not", ("is", "c")), ("is", "b")))
        self.assertEqual(reasons(three, condition), (((), ("c",)), (("b",), ()), (("a",), ())))

    def test_refused(self):
        for function in (reasons, bans):
            assert_judged(self, function, (AB, YES), (0, (), BadHouse), (1, ("is", "c"), BadCondition))
        assert_judged(self, is_reason, (AB, YES, ((), ())), (0, (), BadHouse), (1, ("is", "c"), BadCondition))
        for bad in STRANGE:
            if bad != YES:
                for function, rest in ((reasons, ()), (bans, ()), (is_reason, (((), ()),))):
                    with self.assertRaises(BadCondition):
                        function(AB, bad, *rest)

    def test_seven_switches(self):
        odd = parity(SEVEN[1])
        self.assertEqual(len(reasons(SEVEN, odd)), 64)
        self.assertEqual(len(bans(SEVEN, odd)), 64)
        for cube in reasons(SEVEN, odd):
            self.assertEqual(len(cube[0] + cube[1]), 7)
            self.assertEqual(len(cube[0]) % 2, 1)

    def test_too_many(self):
        switches = SEVEN[1]
        # As many reasons as there are ways to take two switches as on and two as off.
        middle = ("and", at_least(switches, 2), ("not", at_least(switches, 6)))
        with self.assertRaises(TooMany) as caught:
            reasons(SEVEN, middle)
        self.assertEqual(caught.exception.most, 200)
        with self.assertRaises(TooMany) as caught:
            bans(SEVEN, ("not", middle))
        self.assertEqual(caught.exception.most, 200)
        self.assertEqual(len(bans(SEVEN, middle)), 14)
        some = [cube for cube in slow_cubes(switches) if len(cube[0]) == 2 and len(cube[1]) == 2]
        self.assertEqual(len(some), 210)
        self.assertTrue(all(is_reason(SEVEN, middle, cube) for cube in some))

    def test_of_seven_switches_from_one_to_four_on(self):
        switches = SEVEN[1]
        some = plain(SEVEN, ("and", at_least(switches, 1), ("not", at_least(switches, 5))))
        self.assertEqual(len(reasons(SEVEN, some)), 140)
        self.assertEqual(len(bans(SEVEN, some)), 22)
        self.assertEqual(reasons(SEVEN, some), slow_reasons(SEVEN, some))
        self.assertEqual(bans(SEVEN, some), slow_reasons(SEVEN, ("not", some)))
        fewer = plain(SEVEN, ("and", at_least(switches, 2), ("not", at_least(switches, 5))))
        for function, condition in ((reasons, fewer), (bans, ("not", fewer))):
            with self.assertRaises(TooMany) as caught:
                function(SEVEN, condition)
            self.assertEqual(caught.exception.most, 200)
        self.assertEqual(len(bans(SEVEN, fewer)), 28)
        self.assertEqual(sum(is_reason(SEVEN, fewer, cube) for cube in slow_cubes(switches)), 210)

    def test_many_in_a_row(self):
        """A house of seven switches takes no more than a small part of a second."""
        dice = dice_of(8)
        asked = 0
        start = time.process_time()
        for _ in range(150):
            house = random_house(dice, 7)
            condition = random_condition(dice, house[1], 9)
            for function in (reasons, bans):
                try:
                    asked += len(function(house, condition)) >= 0
                except TooMany:
                    asked += 1
        self.assertEqual(asked, 300)
        # They take about a fifth of a second; when each cube was tried by itself they took 20 seconds.
        self.assertLess(time.process_time() - start, 6)

    def test_too_many_is_behind_all_other_errors(self):
        middle = ("and", at_least(SEVEN[1], 2), ("not", at_least(SEVEN[1], 6)))
        with self.assertRaises(BadHouse):
            reasons(("house", list(SEVEN[1]), YES), middle)
        with self.assertRaises(BadCondition):
            reasons(SEVEN, ("and", middle, None))

    def test_just_two_hundred(self):
        switches = SEVEN[1]
        middle = ("and", at_least(switches, 2), ("not", at_least(switches, 6)))
        without = ("and", middle, ("not", exactly(switches, ("b", "a"))))
        told = reasons(SEVEN, without)
        self.assertEqual(len(told), 200)
        self.assertEqual(told, slow_reasons(SEVEN, without))
        self.assertEqual(bans(SEVEN, ("not", without)), told)
        with self.assertRaises(TooMany) as caught:
            reasons(SEVEN, ("or", without, exactly(switches, ())))
        self.assertEqual(caught.exception.most, 200)


if __name__ == "__main__":
    unittest.main()

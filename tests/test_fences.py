"""Point 75, and what point 76 says of it: fences."""

import itertools
import unittest

from manybuilds.askings import least_askings
from manybuilds.errors import BadHouse, BadLine, BadNumber
from manybuilds.fences import fence, is_fence
from tests.helpers import (
    AB, NONE, ODD, ONE, OR, SEVEN, STRANGE, assert_judged, num, plus, spoiled, when)
from tests.test_askings import results
from tests.test_books import LINE, lines
from tests.test_cubes import lies_in, slow_cubes
from tests.test_ties import X

ALL = ((), ())
FENCE = (ALL, (("a",), ()), (("b",), ()))


def added(switches, cube, s):
    """The two cubes that have the switch besides."""
    on, off = cube
    return [(tuple(t for t in switches if t in on + (s,)), off), (on, tuple(t for t in switches if t in off + (s,)))]


def slow_is_fence(house, line, most, cubes):
    """What point 75 says of a tuple of cubes."""
    known = results(house, line)
    if len(set(cubes)) != len(cubes) or ALL not in cubes:
        return False
    for cube in cubes:
        on, off = cube
        inside = [setting for setting in known if lies_in(setting, cube)]
        if len(on + off) > most or len({known[setting] for setting in inside}) < 2:
            return False
        if len(on + off) < most:
            for s in house[1]:
                settled = len({s in setting for setting in inside}) == 1
                if not settled and not any(other in cubes for other in added(house[1], cube, s)):
                    return False
    return True


def slow_fence(house, line, most):
    """All cubes that are in some fence: those that must go are taken away until none must."""
    known = results(house, line)
    cubes = [cube for cube in slow_cubes(house[1]) if len(cube[0] + cube[1]) <= most]
    cubes = [cube for cube in cubes if len({known[setting] for setting in known if lies_in(setting, cube)}) > 1]
    while True:
        kept = []
        for cube in cubes:
            inside = [setting for setting in known if lies_in(setting, cube)]
            loose = [s for s in house[1] if len({s in setting for setting in inside}) == 2]
            if len(cube[0] + cube[1]) == most or all(
                    any(other in cubes for other in added(house[1], cube, s)) for s in loose):
                kept.append(cube)
        if kept == cubes:
            return tuple(cubes) if ALL in cubes else None
        cubes = kept


class TestFence(unittest.TestCase):
    def test_example(self):
        self.assertEqual(fence(OR, LINE, 1), FENCE)
        self.assertEqual(fence(OR, LINE, 0), (ALL,))
        self.assertIsNone(fence(OR, LINE, 2))

    def test_by_hand(self):
        for most in range(8):
            self.assertIsNone(fence(NONE, LINE, most))
            self.assertIsNone(fence(AB, num(1), most))
            self.assertIsNone(fence(AB, when("a", num(1), num(1)), most))
        line = when("a", num(1), num(2))
        self.assertEqual(fence(AB, line, 0), (ALL,))
        self.assertIsNone(fence(AB, line, 1))
        self.assertIsNone(fence(("house", ("a", "b"), ("is", "a")), line, 0))
        # A switch that is settled needs no cube, but may be in one.
        house = ("house", ("a", "b"), ("is", "b"))
        self.assertEqual(fence(house, line, 0), (ALL,))
        both = plus(when("a", num(1), num(0)), when("b", num(1), num(0)))
        self.assertEqual(fence(AB, both, 1), (ALL, ((), ("a",)), ((), ("b",)), (("a",), ()), (("b",), ())))
        settled = ("house", ("a", "b", "c"), ("is", "c"))
        self.assertEqual(fence(settled, both, 1), (ALL, ((), ("a",)), ((), ("b",)), (("a",), ()), (("b",), ()), (("c",), ())))

    def test_a_cube_that_settles_a_switch_by_the_rule(self):
        # Behind c on, a and b are unlike, so asking for a tells b.
        house = ("house", ("a", "b", "c"), ("or", ("not", ("is", "c")), ("split", "a", ("not", ("is", "b")), ("is", "b"))))
        line = plus(when("a", num(1), num(0)), plus(when("b", num(1), num(0)), when("b", when("c", num(9), num(0)), num(0))))
        for most in range(4):
            self.assertEqual(fence(house, line, most), slow_fence(house, line, most))

    def test_against_slow(self):
        found = 0
        for house, line, _ in lines(751, 10):
            for most in range(len(house[1]) + 1):
                told = fence(house, line, most)
                self.assertEqual(told, slow_fence(house, line, most), (house, line, most))
                if told is not None:
                    found += 1
                    self.assertIs(is_fence(house, line, most, told), True)
        self.assertGreater(found, 40)

    def test_either_a_tree_or_a_fence(self):
        for house, line, _ in lines(752, 8):
            depth = least_askings(house, line)
            for most in range(8):
                self.assertEqual(fence(house, line, most) is None, depth is None or depth <= most)

    def test_height_seven_has_none(self):
        line = num(0)
        for s in SEVEN[1]:
            line = plus(line, when(s, num(1), num(0)))
        self.assertIsNone(fence(SEVEN, line, 7))
        self.assertEqual(len(fence(SEVEN, line, 0)), 1)
        cubes = fence(SEVEN, line, 6)
        self.assertEqual(len(cubes), 3 ** 7 - 2 ** 7)
        self.assertIs(is_fence(SEVEN, line, 6, cubes), True)
        self.assertEqual(cubes[:3], (ALL, ((), ("g",)), ((), ("f",))))

    def test_wrong_values(self):
        for bad in (-1, 8, None, True, False, "1", (1,), [], 10 ** 8):
            assert_judged(self, fence, [OR, LINE, 1], (0, "house", BadHouse), (1, X + X, BadLine), (2, bad, BadNumber))
            assert_judged(self, is_fence, [OR, LINE, 1, FENCE], (0, "house", BadHouse), (1, None, BadLine), (2, bad, BadNumber))
            # A height counts as wrong also where there is no setting.
            assert_judged(self, fence, [NONE, LINE, 7], (2, bad, BadNumber))


class TestIsFence(unittest.TestCase):
    def test_by_hand(self):
        self.assertIs(is_fence(OR, LINE, 1, FENCE), True)
        self.assertIs(is_fence(OR, LINE, 0, FENCE), False)
        self.assertIs(is_fence(OR, LINE, 2, FENCE), False)
        for order in itertools.permutations(FENCE):
            self.assertIs(is_fence(OR, LINE, 1, order), True)
        for wrong in (FENCE[1:], FENCE[:2], FENCE + FENCE[:1], FENCE + ((("a", "b"), ()),), FENCE + (((), ("a",)),), (),
                      FENCE + (((), ("c",)),), FENCE + ((("a",), ("a",)),), FENCE[:2] + ((("b",),),), ALL):
            self.assertIs(is_fence(OR, LINE, 1, wrong), False, wrong)
        self.assertIs(is_fence(OR, LINE, 0, (ALL,)), True)
        self.assertIs(is_fence(NONE, LINE, 0, (ALL,)), False)
        self.assertIs(is_fence(ONE, num(1), 0, (ALL,)), False)

    def test_a_part_of_the_greatest_one(self):
        both = plus(when("a", num(1), num(0)), when("b", num(1), num(0)))
        greatest = fence(AB, both, 1)
        right = 0
        for size in range(6):
            for cubes in itertools.combinations(greatest, size):
                expected = slow_is_fence(AB, both, 1, cubes)
                self.assertIs(is_fence(AB, both, 1, cubes), expected)
                right += expected
        self.assertEqual(right, 9)

    def test_of_one_side_alone(self):
        house = ("house", ("a", "b", "c"), ("yes",))
        line = plus(when("a", num(1), num(0)), plus(when("b", num(1), num(0)), when("c", num(1), num(0))))
        lots = [lot for size in range(3) for lot in itertools.combinations("abc", size)]
        for cubes in ([((), lot) for lot in lots], [(lot, ()) for lot in lots]):
            self.assertIs(is_fence(house, line, 2, tuple(cubes)), True)
            for at in range(len(cubes)):
                self.assertIs(is_fence(house, line, 2, tuple(cubes[:at] + cubes[at + 1:])), False)
        mixed = [ALL, (("a",), ()), ((), ("b",)), ((), ("c",)), (("a",), ("b",)), (("a",), ("c",)), ((), ("b", "c"))]
        self.assertIs(is_fence(house, line, 2, tuple(mixed)), True)
        self.assertIs(is_fence(house, line, 2, tuple(mixed[:-1])), False)

    def test_against_slow(self):
        seen = {True: 0, False: 0}
        for house, line, dice in lines(753, 4):
            every = slow_cubes(house[1])
            for most in range(3):
                greatest = list(fence(house, line, most) or (ALL,))
                for _ in range(6):
                    cubes = [cube for cube in greatest if dice.random() < 0.9]
                    if dice.random() < 0.2:
                        cubes.append(dice.choice(every))
                    dice.shuffle(cubes)
                    expected = slow_is_fence(house, line, most, tuple(cubes))
                    self.assertIs(is_fence(house, line, most, tuple(cubes)), expected)
                    seen[expected] += 1
        self.assertGreater(min(seen.values()), 50, seen)

    def test_any_value(self):
        for wrong in STRANGE + tuple(spoiled(FENCE)):
            self.assertIs(is_fence(OR, LINE, 1, wrong), False, wrong)
        for most in range(8):
            self.assertIs(is_fence(ODD, num(1), most, (ALL,)), False)


if __name__ == "__main__":
    unittest.main()

"""Point 93: all builds merged."""

import unittest

from manybuilds.errors import BadHouse, BadLine, Clash, Clashing
from manybuilds.least import least
from manybuilds.merging import clashes, merged
from manybuilds.patching import merge
from tests.helpers import (
    AB, HOUSES, NO, NONE, OR, SEVEN, STRANGE, YES, assert_judged, assert_told, decided, dice_of, num, plus, random_line,
    slow_builds, slow_label, slow_let, slow_parts, spoiled, when)

BASE = plus(num(1), when("b", num(2), num(3)))


def changed_line(dice, house, line, chance=0.2):
    """The line with some of its nodes replaced."""
    if dice.random() < chance:
        return random_line(dice, house[1], dice.randint(1, 3))
    return slow_label(line) + tuple(changed_line(dice, house, part, chance) for part in slow_parts(line))


class TestMerging(unittest.TestCase):
    def test_by_hand(self):
        one = plus(num(7), when("b", num(2), num(3)))
        other = plus(num(1), when("b", num(2), num(8)))
        self.assertEqual(merged(AB, BASE, one, other), plus(num(7), when("b", num(2), num(8))))
        self.assertEqual(clashes(AB, BASE, one, other), NO)
        third = plus(when("a", num(6), num(1)), when("b", num(2), num(3)))
        self.assertEqual(clashes(AB, BASE, one, third), ("split", "a", YES, NO))
        with self.assertRaises(Clashing) as caught:
            merged(AB, BASE, one, third)
        self.assertEqual(caught.exception.setting, ("a",))
        self.assertEqual(merged(("house", ("a", "b"), ("not", ("is", "a"))), BASE, one, third), least(
            ("house", ("a", "b"), ("not", ("is", "a"))), one))

    def test_no_let_setting(self):
        self.assertEqual(clashes(NONE, num(1), num(2), num(3)), NO)
        self.assertEqual(merged(NONE, num(1), num(2), num(3)), num(0))

    def test_against_slow(self):
        dice = dice_of(43)
        done = clashing = 0
        for _ in range(300):
            house = dice.choice(HOUSES)
            base = random_line(dice, house[1], 12, 0.4)
            one, other = changed_line(dice, house, base, 0.1), changed_line(dice, house, base, 0.1)
            bases, ones, others = (slow_builds(house, line) for line in (base, one, other))
            trees, wrong = {}, []
            for setting in slow_let(house):
                try:
                    trees[setting] = merge(bases[setting], ones[setting], others[setting])
                except Clash:
                    wrong.append(setting)
            assert_told(self, house, clashes(house, base, one, other), wrong)
            self.assertEqual(clashes(house, base, one, other), clashes(house, base, other, one))
            if wrong:
                clashing += 1
                with self.assertRaises(Clashing) as caught:
                    merged(house, base, one, other)
                self.assertEqual(caught.exception.setting, wrong[0])
            else:
                done += 1
                expected = least(house, decided(house, trees)) if trees else num(0)
                self.assertEqual(merged(house, base, one, other), expected)
                self.assertEqual(merged(house, base, other, one), expected)
                written = [least(house, line) for line in (base, one, other)]
                self.assertEqual(merged(house, *written), expected)
        self.assertGreater(done, 50)
        self.assertGreater(clashing, 30)

    def test_merged_with_the_base(self):
        dice = dice_of(44)
        for house in HOUSES:
            for _ in range(8):
                base, other = random_line(dice, house[1], 8), random_line(dice, house[1], 8)
                self.assertEqual(merged(house, base, base, other), least(house, other))
                self.assertEqual(merged(house, base, other, base), least(house, other))
                self.assertEqual(merged(house, base, other, other), least(house, other))

    def test_seven_switches(self):
        base = num(0)
        for s in SEVEN[1]:
            base = plus(when(s, num(1), num(2)), base)
        one, other = plus(num(9), base[2]), plus(base[1], plus(num(9), base[2][2]))
        self.assertEqual(merged(SEVEN, base, one, other), plus(num(9), plus(num(9), base[2][2])))

    def test_refused(self):
        for function in (clashes, merged):
            assert_judged(self, function, (OR, BASE, BASE, num(1)), (0, (), BadHouse), (1, (), BadLine),
                          (2, num(1000), BadLine), (3, None, BadLine))
            for bad in STRANGE + tuple(spoiled(BASE)):
                for place in (1, 2, 3):
                    args = [OR, BASE, BASE, BASE]
                    args[place] = bad
                    with self.assertRaises(BadLine):
                        function(*args)
        with self.assertRaises(BadLine):
            merged(AB, num(1), num(2), ("number", True))
        with self.assertRaises(Clashing):
            merged(AB, num(1), num(2), num(3))


if __name__ == "__main__":
    unittest.main()

"""Point 92 and the examples of point 95."""

import itertools
import unittest

from manybuilds.errors import BadCondition, BadHouse, BadLine, BadTold, Clash
from manybuilds.least import is_ahead, least
from manybuilds.lines import build, is_line
from manybuilds.putting import least_way, put
from manybuilds.telling import offers, patches, reach
from tests.helpers import (
    AB, NO, NONE, OR, SEVEN, SMALL, STRANGE, YES, assert_judged, decided, dice_of, num, plus, random_condition, random_line,
    slow_ahead, slow_build, slow_builds, slow_choices, slow_held, slow_let, when)
from tests.test_telling import CLASHING, LINE, random_told, slow_offers, slow_patches

X = plus(num(1), when("b", num(2), num(3)))
SHOWN = ("show", num(1))
TOLD = ((("a",), plus(SHOWN, num(3))),)


def clashes(house, line, told):
    try:
        patches(house, line, told)
    except Clash:
        return True
    return False


def slow_way(house, line, told):
    """The first in order of the least lines for all combinations of offers."""
    settings = slow_let(house)
    best = None
    for trees in itertools.product(*[slow_offers(line, told, setting) for setting in settings]):
        found = least(house, decided(house, dict(zip(settings, trees))))
        if best is None or slow_ahead(house, found, best):
            best = found
    return best


def slow_widest(line, told, setting):
    """The build with each patch that fits and is within no other one that fits."""
    if setting in dict(told):
        return dict(told)[setting]
    news = {patch[1:3]: patch[3] for patch in slow_patches(line, told)}

    def widest(path, tree):
        if (path, tree) in news:
            return news[(path, tree)]
        return tuple(widest(path + (at,), part) if isinstance(part, tuple) else part for at, part in enumerate(tree))
    return widest((), slow_build(line, setting))


class TestByHand(unittest.TestCase):
    def test_one_told(self):
        self.assertEqual(patches(AB, X, TOLD), (("patch", (1,), num(1), SHOWN),))
        self.assertEqual(reach(AB, X, patches(AB, X, TOLD)[0]), YES)
        self.assertEqual(least_way(AB, X, TOLD), plus(SHOWN, when("b", num(2), num(3))))
        self.assertEqual(put(AB, X, TOLD, YES), plus(SHOWN, when("b", num(2), num(3))))

    def test_two_told(self):
        told = TOLD + (((), plus(num(1), num(3))),)
        expected = plus(when("a", SHOWN, num(1)), when("b", num(2), num(3)))
        self.assertEqual(least_way(AB, X, told), expected)
        self.assertEqual(put(AB, X, told, YES), when("b", plus(SHOWN, num(2)), plus(when("a", SHOWN, num(1)), num(3))))
        narrow = put(AB, X, TOLD, NO)
        self.assertEqual([build(AB, narrow, setting) for setting in slow_let(AB)],
                         [plus(num(1), num(3)), plus(num(1), num(2)), plus(SHOWN, num(3)), plus(num(1), num(2))])

    def test_nothing_told(self):
        for house in SMALL:
            line = random_line(dice_of(40), house[1], 10)
            self.assertEqual(least_way(house, line, ()), least(house, line))
            self.assertEqual(put(house, line, (), YES), least(house, line))
            self.assertEqual(put(house, line, (), NO), least(house, line))

    def test_no_let_setting(self):
        self.assertEqual(least_way(NONE, X, ()), num(0))
        self.assertEqual(put(NONE, X, (), YES), num(0))

    def test_patches_within_others(self):
        three = ("house", ("a", "b"), YES)
        line = ("show", plus(num(1), num(2)))
        told = (((), ("show", plus(num(1), num(9)))), (("a",), ("show", num(7))))
        # Both fit the others: the outer one counts.
        self.assertEqual(put(three, line, told, YES), ("show", when("a", num(7), when("b", num(7), plus(num(1), num(9))))))


class TestLeastWay(unittest.TestCase):
    def test_against_slow(self):
        dice = dice_of(37)
        done = wide = 0
        for _ in range(400):
            house = dice.choice(SMALL)
            line = random_line(dice, house[1], dice.randint(2, 9), 0.4)
            told = random_told(dice, house, line, 0.3)
            if not slow_let(house) or clashes(house, line, told):
                continue
            counts = 1
            for setting in slow_let(house):
                counts *= len(slow_offers(line, told, setting))
            if counts > 300:
                continue
            self.assertEqual(least_way(house, line, told), slow_way(house, line, told))
            done += 1
            wide += counts > 10
        self.assertGreater(done, 100)
        self.assertGreater(wide, 15)

    def test_builds_are_offers(self):
        dice = dice_of(38)
        for _ in range(100):
            house = dice.choice(SMALL)
            line = random_line(dice, house[1], 15, 0.4)
            told = random_told(dice, house, line, 0.1)
            if clashes(house, line, told):
                continue
            found = least_way(house, line, told)
            self.assertTrue(is_line(house, found))
            for setting in slow_let(house):
                self.assertIn(build(house, found, setting), slow_offers(line, told, setting))
                if setting in dict(told):
                    self.assertEqual(build(house, found, setting), dict(told)[setting])
            self.assertEqual(least(house, found), found)

    def test_the_order_of_told_does_not_count(self):
        dice = dice_of(39)
        for _ in range(60):
            house = dice.choice(SMALL)
            line = random_line(dice, house[1], 12, 0.4)
            told = random_told(dice, house, line, 0.2)
            if not clashes(house, line, told):
                self.assertEqual(least_way(house, line, told), least_way(house, line, told[::-1]))
                self.assertEqual(put(house, line, told, YES), put(house, line, told[::-1], YES))
                self.assertEqual(least_way(house, least(house, line), told), least_way(house, line, told))

    def test_seven_switches(self):
        line = plus(num(1), when("b", num(2), num(3)))
        told = ((SEVEN[1], plus(SHOWN, num(2))),)
        self.assertEqual(least_way(SEVEN, line, told), plus(SHOWN, when("b", num(2), num(3))))
        self.assertEqual(len(offers(SEVEN, line, told, ())), 2)
        self.assertEqual(slow_choices(put(SEVEN, line, told, NO)), 7)

    def test_refused(self):
        assert_judged(self, least_way, (AB, LINE, TOLD), (0, (), BadHouse), (1, (), BadLine), (2, [], BadTold))
        with self.assertRaises(Clash) as caught:
            least_way(AB, LINE, CLASHING)
        self.assertEqual(caught.exception.path, (1,))
        for bad in STRANGE:
            if bad != ():
                with self.assertRaises(BadTold):
                    least_way(AB, LINE, bad)
        with self.assertRaises(BadTold):
            least_way(OR, LINE, (((), num(1)),))


class TestPut(unittest.TestCase):
    def test_against_slow(self):
        dice = dice_of(41)
        done = 0
        for _ in range(200):
            house = dice.choice(SMALL)
            line = random_line(dice, house[1], 14, 0.4)
            told = random_told(dice, house, line, 0.2)
            if not slow_let(house) or clashes(house, line, told):
                continue
            condition = random_condition(dice, house[1], 4)
            held = slow_held(house, condition)
            trees = slow_builds(house, line)
            for setting in trees:
                if setting in held or setting in dict(told):
                    trees[setting] = slow_widest(line, told, setting)
            found = put(house, line, told, condition)
            self.assertEqual(found, least(house, decided(house, trees)))
            done += 1
        self.assertGreater(done, 100)

    def test_neither_is_ahead_of_least_way(self):
        dice = dice_of(42)
        for _ in range(150):
            house = dice.choice(SMALL)
            line = random_line(dice, house[1], 14, 0.4)
            told = random_told(dice, house, line, 0.2)
            if clashes(house, line, told):
                continue
            best = least_way(house, line, told)
            for condition in (YES, NO):
                self.assertFalse(is_ahead(house, put(house, line, told, condition), best))
            self.assertFalse(is_ahead(house, put(house, line, told, random_condition(dice, house[1], 3)), best))

    def test_refused(self):
        assert_judged(self, put, (AB, LINE, TOLD, YES), (0, (), BadHouse), (1, (), BadLine), (2, [], BadTold),
                      (3, ("is", "c"), BadCondition))
        with self.assertRaises(BadCondition):
            put(AB, LINE, CLASHING, ("is", "c"))
        with self.assertRaises(Clash) as caught:
            put(AB, LINE, CLASHING, NO)
        self.assertEqual(caught.exception.path, (1,))
        for bad in STRANGE:
            if bad != YES:
                with self.assertRaises(BadCondition):
                    put(AB, LINE, TOLD, bad)


if __name__ == "__main__":
    unittest.main()

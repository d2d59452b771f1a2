"""Point 63, and what point 65 says of it: one part for another."""

import itertools
import unittest

from manybuilds.errors import BadHouse, BadPart
from manybuilds.interfaces import interface
from manybuilds.parts import is_part, right_where
from manybuilds.replacing import is_telling, may_replace, telling
from tests.helpers import (
    AB, HOUSES, NO, NONE, ODD, ONE, OR, STRANGE, YES, assert_judged, assert_told, dice_of, num, plus, random_house,
    slow_holds, slow_let, spoiled, when)
from tests.slow_parts import random_part, random_parts, slow_right
from tests.test_forks import A, NOT_A
from tests.test_parts import EXAMPLE, GIVER, SHORT, W, X, Y, give, keep, part
from tests.test_ties import FALSE, TRUE


def small_parts():
    """Parts of all kinds over two names: what they give, what they read, and as what."""
    for given in itertools.product((None, num(1), TRUE, "other", "number", "truth"), repeat=2):
        rows = []
        for name, other, line in zip("xy", "yx", given):
            if line is not None:
                lines = {"other": ("name", other), "number": ("then", ("name", other), num(1)),
                         "truth": ("then", ("name", other), TRUE)}
                rows.append(give(name, lines.get(line, line)))
        for reads in itertools.product((None, "any", "number", "truth"), repeat=2):
            kept = []
            for name, kept_name, kind in zip("xy", "pq", reads):
                lines = {"any": ("name", name), "number": plus(("name", name), num(1)),
                         "truth": ("if", ("name", name), num(1), num(1))}
                if kind:
                    kept.append(keep(kept_name, lines[kind]))
            yield part(*(rows + kept))


SMALL_PARTS = tuple(small_parts())


class TestMayReplace(unittest.TestCase):
    def test_example(self):
        # Without its row of z it may be replaced by the part in () alone.
        self.assertEqual(may_replace(ONE, SHORT, EXAMPLE), NOT_A)
        self.assertEqual(may_replace(ONE, EXAMPLE, SHORT), YES)

    def test_by_hand(self):
        one, true, empty = part(give("x", num(1))), part(give("x", TRUE)), part()
        for first, second, both in ((one, true, NO), (one, empty, NO), (one, part(give("x", num(9))), YES),
                                    (one, part(give("x", when("a", TRUE, num(1)))), NOT_A),
                                    (one, part(give("x", ("then", Y, num(1)))), NO), (empty, part(keep("k", W)), NO),
                                    (empty, part(keep("k", plus(num(1), num(2)))), YES)):
            self.assertEqual(may_replace(ONE, first, second), both)
        # Who needs less, or leans on less, may come in.
        self.assertEqual(may_replace(ONE, part(keep("k", W)), empty), YES)
        self.assertEqual(may_replace(ONE, part(give("x", ("then", Y, num(1)))), one), YES)
        # Who ties less, too.
        loose = part(give("x", num(1)), keep("k", Y))
        tied = part(give("x", num(1)), keep("k", plus(Y, num(1))))
        self.assertEqual(may_replace(ONE, tied, loose), YES)
        self.assertEqual(may_replace(ONE, loose, tied), NO)
        # Anything may stand in the place of what is wrong by itself.
        wrong = part(give("x", num(1)), give("x", num(1), A))
        self.assertEqual(may_replace(ONE, wrong, true), A)
        self.assertEqual(may_replace(ONE, true, wrong), NO)
        self.assertEqual(may_replace(ONE, one, wrong), NOT_A)

    def test_no_let_setting(self):
        self.assertEqual(may_replace(NONE, GIVER, part()), NO)
        self.assertIsNone(telling(NONE, GIVER, part()))
        self.assertEqual(may_replace(("house", ("a",), ("is", "a")), GIVER, GIVER), A)

    def test_just_where_no_small_part_tells(self):
        """One part tells, so for parts over two names all parts over these are tried."""
        dice = dice_of(631)
        house = ("house", ("a",), ("is", "a"))
        found = {A: 0, NO: 0}
        for _ in range(24):
            pair = [random_part(dice, house, 3, ("k",), ("x", "y"), size=4) for _ in range(2)]
            one, other = [("part", tuple(row[:2] + (YES,) + row[3:] for row in each[1])) for each in pair]
            if any("k" in dict(interface(house, each)[3]) for each in (one, other)):
                # No part over these names gives it.
                continue
            may = may_replace(house, one, other)
            found[may] += 1
            tellers = [each for each in SMALL_PARTS if right_where(house, (one, each)) != NO
                       and right_where(house, (other, each)) == NO]
            self.assertEqual(bool(tellers), may == NO, (one, other))
            for each in tellers[:3]:
                self.assertIs(is_telling(house, one, other, (("a",), each)), True)
        self.assertGreater(min(found.values()), 1, found)

    def test_where_it_holds_no_further_parts_tell(self):
        dice = dice_of(632)
        for house in HOUSES:
            for _ in range(10):
                one, other = random_part(dice, house, 3, ("k",)), random_part(dice, house, 3, ("l",))
                if dice.random() < 0.6:
                    other = ("part", tuple(row for row in one[1] if dice.random() < 0.7))
                may = may_replace(house, one, other)
                for _ in range(4):
                    further = random_parts(dice, house, dice.randint(0, 2), kept=(("m",), ("n",)))
                    with_one, with_other = right_where(house, (one,) + further), right_where(house, (other,) + further)
                    for setting in slow_let(house):
                        if slow_holds(may, setting) and slow_holds(with_one, setting):
                            self.assertTrue(slow_holds(with_other, setting), (house, one, other, further))

    def test_both_ways_just_with_equal_interfaces(self):
        dice = dice_of(633)
        equal = 0
        for house in HOUSES:
            for _ in range(12):
                one = random_part(dice, house, 2, ("k",), ("x", "y"), size=4)
                other = random_part(dice, house, 2, ("k",), ("x", "y"), size=4)
                let = may_replace(house, one, one)
                assert_told(self, house, let, slow_let(house))
                both = may_replace(house, one, other) == let and may_replace(house, other, one) == let
                self.assertIs(both, interface(house, one) == interface(house, other))
                equal += both
        self.assertGreater(equal, 5)

    def test_wrong_values(self):
        for function in (may_replace, telling):
            for bad in STRANGE + (list(GIVER), (GIVER,), part(give("x", ("set", "x", X)))):
                assert_judged(self, function, [ONE, EXAMPLE, SHORT], (0, ["house"], BadHouse), (1, bad, BadPart), (2, bad, BadPart))


class TestTelling(unittest.TestCase):
    def test_example(self):
        self.assertIsNone(telling(ONE, EXAMPLE, SHORT))
        setting, known = telling(ONE, SHORT, EXAMPLE)
        self.assertEqual(setting, ("a",))
        self.assertIs(is_part(ONE, known), True)
        self.assertIs(is_telling(ONE, SHORT, EXAMPLE, (setting, known)), True)

    def assert_tells(self, house, one, other):
        found = telling(house, one, other)
        self.assertEqual(found is None, may_replace(house, one, other) == may_replace(house, one, one))
        if found is not None:
            setting, known = found
            self.assertIs(is_part(house, known), True, found)
            self.assertIn(setting, slow_right(house, (one, known)), (house, one, other, found))
            self.assertNotIn(setting, slow_right(house, (other, known)), (house, one, other, found))
            self.assertIs(is_telling(house, one, other, found), True)
        return found

    def test_each_way(self):
        one, loose = part(give("x", num(1))), part(give("x", Y), keep("k", W))
        for first, second in (
                (one, part(give("x", TRUE))), (part(give("x", TRUE)), one), (one, part()), (part(), one),
                (loose, one), (one, loose), (part(give("x", num(1)), keep("k", Y)), part(give("x", ("then", Y, num(1))))),
                (loose, part(give("x", Y), keep("k", plus(W, num(1))))), (loose, part(give("x", Y), keep("k", ("if", W, X, Y)))),
                (loose, part(give("x", Y), keep("k", ("if", TRUE, W, Y)))), (one, part(give("x", X))),
                (one, part(give("x", num(1)), keep("k", plus(TRUE, num(1))))), (loose, part(give("x", Y))),
                (part(give("x", num(1)), give("y", TRUE)), part(give("x", num(1)), give("y", num(2)))),
                (part(keep("k", X), keep("l", ("if", Y, X, X))), part(keep("k", ("if", Y, plus(X, num(1)), num(1))))),
                (part(keep("k", Y), keep("l", X)), part(give("y", num(1)), keep("l", X))),
                # Two names are tied, of which one must be a truth, or the other one a number.
                (part(keep("k", ("if", X, num(1), num(1))), keep("l", Y)), part(keep("k", ("if", TRUE, X, Y)))),
                (part(keep("k", X), keep("l", plus(Y, num(1)))), part(keep("k", ("if", TRUE, X, Y)))),
                (part(keep("k", ("if", Y, num(1), num(1))), keep("l", X)), part(keep("k", ("if", TRUE, X, Y)))),
                (part(keep("k", Y), keep("l", plus(X, num(1)))), part(keep("k", ("if", TRUE, X, Y)))),
                (part(keep("k", ("if", X, num(1), num(1))), keep("l", plus(Y, num(1)))), part(keep("k", ("if", TRUE, X, Y)))),
                (part(give("x", TRUE), keep("l", Y)), part(give("x", W), keep("k", ("if", TRUE, X, Y)), keep("w", TRUE)))):
            self.assert_tells(ONE, first, second)
            self.assert_tells(ONE, second, first)

    def test_by_chance(self):
        dice = dice_of(634)
        found = 0
        for house in HOUSES + tuple(random_house(dice, dice.randint(1, 3)) for _ in range(8)):
            for _ in range(20):
                one = random_part(dice, house, 4, ("k",))
                rows = tuple(row for row in one[1] if dice.random() < 0.8)
                other = ("part", rows + random_part(dice, house, 1, ("l",))[1])
                found += self.assert_tells(house, one, other) is not None
                found += self.assert_tells(house, other, one) is not None
        self.assertGreater(found, 100)

    def test_is_telling(self):
        reader = part(keep("k", ("name", "y")))
        told = (("a",), reader)
        self.assertIs(is_telling(ONE, GIVER, part(), told), True)
        self.assertIs(is_telling(ONE, part(), GIVER, told), False)
        self.assertIs(is_telling(ONE, GIVER, GIVER, told), False)
        # Right or not in this setting alone.
        giver = part(give("y", num(1), A))
        self.assertIs(is_telling(ONE, giver, part(), told), True)
        self.assertIs(is_telling(ONE, giver, part(), ((), reader)), False)
        self.assertIs(is_telling(OR, GIVER, part(), (("b",), reader)), True)
        self.assertIs(is_telling(OR, GIVER, part(), ((), reader)), False)
        self.assertIs(is_telling(NONE, GIVER, part(), told), False)
        for wrong in STRANGE + tuple(spoiled(told)) + (
                told + (YES,), told[:1], told[::-1], (("b",), reader), ("a", reader), (("a", "a"), reader),
                (("a",), (reader,)), (("a",), None), (None, reader), (("a",), part(give("x", FALSE, ("is", "q"))))):
            self.assertIs(is_telling(ONE, GIVER, part(), wrong), False, wrong)

    def test_is_telling_wrong_values(self):
        for bad in (None, [], GIVER[1], list(GIVER)):
            assert_judged(self, is_telling, [AB, GIVER, SHORT, ()], (0, AB[2], BadHouse), (1, bad, BadPart), (2, bad, BadPart))
        self.assertIs(is_telling(ODD, GIVER, SHORT, None), False)


if __name__ == "__main__":
    unittest.main()

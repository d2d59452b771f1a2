"""Point 62: parts linked and put together by their interfaces."""

import itertools
import unittest

from manybuilds.composing import put_together, right_by, together
from manybuilds.errors import BadHouse, BadInterfaces, BadParts, Mixed
from manybuilds.interfaces import interface, is_interface, part_with
from manybuilds.parts import is_part, right_where
from tests.helpers import (
    AB, HOUSES, NO, NONE, ONE, OR, STRANGE, YES, assert_judged, assert_told, dice_of, num, plus, random_house, slow_holds,
    slow_let, when)
from tests.slow_parts import random_part, random_parts, slow_right
from tests.test_forks import A, NOT_A
from tests.test_interfaces import EMPTY, GIVE_X, GIVE_Y, NEED_Y, TOLD, face
from tests.test_parts import EXAMPLE, GIVER, SHORT, W, X, Y, give, keep, part
from tests.test_ties import TRUE


def cases(seed, many, size=7):
    dice = dice_of(seed)
    for house in HOUSES + tuple(random_house(dice, dice.randint(1, 3)) for _ in range(10)):
        for _ in range(many):
            yield house, random_parts(dice, house, dice.randint(0, 3), size=size), dice


def good_settings(house, told):
    """The let settings in which an interface is neither bad nor needs anything."""
    return [setting for setting in slow_let(house) if not slow_holds(told[1], setting)
            and not any(slow_holds(condition, setting) for _, condition in told[3])]


class TestRightBy(unittest.TestCase):
    def test_by_hand(self):
        given = interface(ONE, GIVER)
        self.assertEqual(right_by(ONE, (TOLD, given)), NOT_A)
        self.assertEqual(right_by(ONE, (interface(ONE, SHORT), given)), YES)
        self.assertEqual(right_by(ONE, (given, given)), NO)
        self.assertEqual(right_by(ONE, (given, face(bad=A))), NOT_A)
        self.assertEqual(right_by(ONE, ()), YES)
        self.assertEqual(right_by(NONE, (EMPTY,)), NO)
        assert_told(self, OR, right_by(OR, ()), [("b",), ("a",), ("a", "b")])

    def test_rings_and_clashes_over_several(self):
        ring = [interface(ONE, part(give(one, ("then", ("name", other), num(1))))) for one, other in ("xy", "yw", "wx")]
        self.assertEqual(right_by(ONE, tuple(ring)), NO)
        self.assertEqual(right_by(ONE, tuple(ring[:2]) + (interface(ONE, part(give("w", num(1)))),)), YES)
        parts = (part(give("x", Y)), part(give("y", when("a", TRUE, num(1)))), part(keep("k", plus(X, num(1)))))
        self.assertEqual(right_by(ONE, tuple(interface(ONE, each) for each in parts)), NOT_A)

    def test_is_right_where(self):
        seen = 0
        for house, parts, _ in cases(621, 20):
            told = tuple(interface(house, each) for each in parts)
            condition = right_by(house, told)
            self.assertEqual(condition, right_where(house, parts))
            assert_told(self, house, condition, slow_right(house, parts))
            seen += condition not in (NO, YES)
        self.assertGreater(seen, 30)

    def test_nothing_else_counts(self):
        for house, parts, _ in cases(622, 8):
            others = tuple(part_with(house, interface(house, each)) for each in parts)
            for some in itertools.product(*zip(parts, others)):
                self.assertEqual(right_where(house, some), right_where(house, parts))

    def test_wrong_values(self):
        told = (TOLD, interface(ONE, GIVER))
        for function in (right_by, put_together):
            for bad in [thing for thing in STRANGE if thing != ()] + [
                    TOLD, list(told), (TOLD, list(TOLD)), (EXAMPLE,), (TOLD, None), (face(gives=(("x", YES),)),)]:
                assert_judged(self, function, [ONE, told], (0, "house", BadHouse), (1, bad, BadInterfaces))


class TestPutTogether(unittest.TestCase):
    def test_by_hand(self):
        given = interface(ONE, GIVER)
        self.assertEqual(put_together(ONE, ()), EMPTY)
        self.assertEqual(put_together(ONE, (TOLD,)), TOLD)
        self.assertEqual(put_together(ONE, (interface(ONE, SHORT), given)), face(
            (("x", YES), ("y", YES)), (), (),
            (("number", GIVE_X, YES), ("number", GIVE_Y, YES), (GIVE_X, GIVE_Y, YES))))
        self.assertEqual(put_together(ONE, (given, given)), face(bad=YES))
        # x leans on w by the y of another part.
        chain = tuple(interface(ONE, each) for each in (part(give("x", ("then", Y, num(1)))), part(give("y", W, A))))
        self.assertEqual(put_together(ONE, chain), face(
            (("x", YES), ("y", A)), (("w", A), ("y", NOT_A)), (("x", "w", A), ("x", "y", NOT_A), ("y", "w", A)),
            (("number", GIVE_X, YES), (GIVE_Y, ("need", "w"), A))))
        # What two parts need is one name.
        needy = tuple(interface(ONE, each) for each in (part(give("x", Y)), part(keep("k", plus(Y, num(1))))))
        self.assertEqual(put_together(ONE, needy), face(
            (("x", YES),), (("y", YES),), (("x", "y", YES),),
            (("number", GIVE_X, YES), ("number", NEED_Y, YES), (GIVE_X, NEED_Y, YES))))

    def test_is_the_interface_of_together(self):
        for house, parts, _ in cases(623, 25):
            told = put_together(house, tuple(interface(house, each) for each in parts))
            self.assertIs(is_interface(house, told), True)
            self.assertEqual(told, interface(house, together(house, parts)), (house, parts))

    def test_order_and_lots_do_not_count(self):
        for house, parts, dice in cases(624, 8):
            told = [interface(house, each) for each in parts]
            whole = put_together(house, tuple(told))
            cut = dice.randint(0, len(told))
            lots = (put_together(house, tuple(told[:cut])), put_together(house, tuple(told[cut:])))
            self.assertEqual(put_together(house, lots), whole)
            dice.shuffle(told)
            self.assertEqual(put_together(house, tuple(told)), whole)

    def test_right_where_nothing_is_bad_or_needed(self):
        for house, parts, _ in cases(625, 8):
            told = put_together(house, tuple(interface(house, each) for each in parts))
            assert_told(self, house, right_where(house, parts), good_settings(house, told))


class TestTogether(unittest.TestCase):
    def test_rows_behind_one_another(self):
        self.assertEqual(together(ONE, ()), part())
        self.assertEqual(together(ONE, (EXAMPLE,)), EXAMPLE)
        self.assertEqual(together(ONE, (EXAMPLE, part(), GIVER)), part(*(EXAMPLE[1] + GIVER[1])))
        self.assertEqual(together(ONE, (GIVER, EXAMPLE)), part(*(GIVER[1] + EXAMPLE[1])))
        self.assertEqual(together(ONE, (GIVER, GIVER)), part(*(GIVER[1] * 2)))

    def assert_mixed(self, parts, x):
        with self.assertRaises(Mixed) as caught:
            together(ONE, parts)
        self.assertEqual(caught.exception.x, x)

    def test_mixed(self):
        kept = part(keep("k", num(1)), keep("l", num(1), NO))
        for other, x in ((part(keep("k", num(1))), "k"), (part(give("k", num(1))), "k"), (part(give("l", num(1), NO)), "l"),
                         (part(give("x", plus(num(1), ("name", "k")))), "k"), (part(keep("x", when("a", ("name", "l"), X), NO)), "l"),
                         (part(give("x", ("let", "k", ("name", "k"), num(1)))), "k"), (part(give("l", ("name", "k"))), "k"),
                         (kept, "k")):
            self.assert_mixed((kept, other), x)
            self.assert_mixed((other, part(), kept), x)
        for other in (part(), part(give("x", ("let", "k", num(1), ("set", "k", ("name", "k"))))), GIVER, EXAMPLE):
            self.assertEqual(together(ONE, (kept, other)), part(*(kept[1] + other[1])))
        # Within one part a kept name may be read.
        alone = part(keep("k", num(1)), give("x", ("name", "k")))
        self.assertEqual(together(ONE, (alone, GIVER)), part(*(alone[1] + GIVER[1])))
        self.assert_mixed((part(keep("z", num(1))), part(keep("b", num(1))), part(give("x", plus(("name", "z"), ("name", "b"))))),
                          "b")

    def test_together_is_a_part(self):
        dice = dice_of(626)
        mixed = 0
        for house in HOUSES:
            for _ in range(40):
                parts = tuple(random_part(dice, house, 3, ("k", dice.choice("lmn"))[dice.randint(0, 1):]) for _ in range(2))
                names = [{row[1] for row in each[1]} for each in parts]
                try:
                    known = together(house, parts)
                except Mixed as error:
                    mixed += 1
                    self.assertTrue(any(row[0] == "keep" and row[1] == error.x for each in parts for row in each[1]))
                else:
                    self.assertIs(is_part(house, known), True)
                    self.assertEqual({row[1] for row in known[1]}, names[0] | names[1])
        self.assertGreater(mixed, 5)

    def test_wrong_values(self):
        parts = (EXAMPLE, GIVER)
        for bad in [thing for thing in STRANGE if thing != ()] + [EXAMPLE, list(parts), (EXAMPLE, None), (TOLD,)]:
            assert_judged(self, together, [AB, parts], (0, AB[1], BadHouse), (1, bad, BadParts))


if __name__ == "__main__":
    unittest.main()

"""Points 5, 6 and 7, and fate of point 8."""

import unittest

from manybuilds.conditions import (
    fate, holds, how_many, is_condition, is_house, is_setting, least_setting, plain, settings, within)
from manybuilds.errors import BadCondition, BadHouse, BadSetting, BadSwitch
from manybuilds.words import KEPT
from tests.helpers import (
    AB, HOUSES, NO, NONE, ODD, ONE, OR, SEVEN, STRANGE, YES, assert_judged, assert_told, deep, dice_of,
    is_plain, random_condition, random_house, slow_all, slow_held, slow_holds, slow_let, spoiled)

BAD_HOUSES = STRANGE + (
    ("house", (), YES), ("house", ("a",)), ("house", ("a",), YES, YES), ("home", ("a",), YES),
    ("house", ("a", "a"), YES), ("house", ("a", "b", "a"), YES), ("house", ("A",), YES), ("house", "a", YES),
    ("house", ("abcdefghi",), YES), ("house", ("",), YES), ("house", ("if",), YES), ("house", ("a",), ("is", "b")),
    ("house", tuple("abcdefgh"), YES), ("house", ("a", 1), YES), ("house", ("a", ["b"]), YES),
    ("house", ("a",), ("maybe",)), ("house", ("a",), True), ("house", {"a": 1}, YES),
)


class TestHouses(unittest.TestCase):
    def test_houses(self):
        for house in HOUSES + (SEVEN, ("house", ("abcdefgh",), NO)):
            self.assertIs(is_house(house), True)
        for count in range(1, 8):
            self.assertIs(is_house(("house", tuple("abcdefg"[:count]), YES)), True)

    def test_no_houses(self):
        for thing in BAD_HOUSES:
            self.assertIs(is_house(thing), False, thing)

    def test_kept_words_are_no_switches(self):
        for word in KEPT:
            self.assertIs(is_house(("house", (word,), YES)), False)

    def test_spoiled_houses(self):
        for house in HOUSES:
            for wrong in spoiled(house):
                self.assertIs(is_house(wrong), False, wrong)

    def test_settings_in_order(self):
        self.assertEqual(settings(OR), (("b",), ("a",), ("a", "b")))
        self.assertEqual(settings(AB), ((), ("b",), ("a",), ("a", "b")))
        self.assertEqual(settings(("house", ("b", "a"), YES)), ((), ("a",), ("b",), ("b", "a")))
        self.assertEqual(settings(NONE), ())

    def test_settings_against_slow(self):
        dice = dice_of(1)
        for house in HOUSES + tuple(random_house(dice, dice.randint(1, 6)) for _ in range(60)):
            self.assertEqual(settings(house), tuple(slow_let(house)))

    def test_seven_switches(self):
        told = settings(SEVEN)
        self.assertEqual(len(told), 128)
        self.assertEqual(told[:4], ((), ("a",), ("b",), ("b", "a")))
        self.assertEqual(told[-1], SEVEN[1])
        self.assertEqual(told[64], ("g",))

    def test_is_setting(self):
        for thing in ((), ("a",), ("b",), ("a", "b")):
            self.assertIs(is_setting(OR, thing), True)
            self.assertIs(is_setting(NONE, thing), True)
        for thing in (("b", "a"), ("a", "a"), ("c",), ("a", "c"), ["a"], "a", "ab", {"a"}, ("a", None), (1,), ([],)):
            self.assertIs(is_setting(AB, thing), False, thing)
        for thing in STRANGE:
            self.assertIs(is_setting(OR, thing), False, thing)

    def test_bad_houses_are_refused(self):
        for bad in BAD_HOUSES:
            for function, rest in (
                    (settings, ()), (is_setting, ((),)), (is_condition, (YES,)), (holds, (YES, ())), (plain, (YES,)),
                    (within, (YES,)), (least_setting, (YES,)), (how_many, (YES,)), (fate, ("a",))):
                with self.assertRaises(BadHouse):
                    function(bad, *rest)


class TestConditions(unittest.TestCase):
    def test_is_condition(self):
        for thing in (YES, NO, ("is", "b"), ("not", NO), ("and", YES, NO), ("or", NO, ("is", "a")),
                      ("split", "a", YES, YES), ("split", "b", ("not", ("is", "a")), NO)):
            self.assertIs(is_condition(AB, thing), True)
            for wrong in spoiled(thing):
                self.assertIs(is_condition(AB, wrong), False, wrong)

    def test_no_conditions(self):
        wrong = (("yes", "no"), ("no", YES), ("is",), ("is", "c"), ("is", "a", "b"), ("not",), ("not", YES, NO), ("and",),
                 ("and", YES), ("and", YES, NO, NO), ("or", YES), ("split", "a", YES), ("split", "c", YES, NO),
                 ("split", YES, YES, NO), ("xor", YES, NO), ("maybe",), (), ("not", "yes"), ("is", ("a",)),
                 ("split", "a", YES, NO, NO), ("split", ["a"], YES, NO))
        for thing in STRANGE + wrong:
            self.assertIs(is_condition(AB, thing), thing in (("yes",),), thing)

    def test_deep_conditions(self):
        thing = YES
        for _ in range(58):
            thing = ("not", thing)
        self.assertIs(is_condition(AB, thing), True)
        self.assertIs(holds(AB, thing, ()), True)
        self.assertIs(is_condition(AB, ("not", deep(58))), False)

    def test_holds(self):
        dice = dice_of(2)
        for house in HOUSES:
            for _ in range(20):
                condition = random_condition(dice, house[1], dice.randint(1, 9))
                for setting in slow_all(house):
                    self.assertIs(holds(house, condition, setting), slow_holds(condition, setting))

    def test_holds_outside_of_the_rule(self):
        self.assertIs(holds(NONE, ("is", "a"), ("a",)), True)
        self.assertIs(holds(OR, ("is", "a"), ()), False)

    def test_holds_refuses(self):
        assert_judged(self, holds, (AB, YES, ()), (0, None, BadHouse), (1, ("is", "c"), BadCondition),
                      (2, ("c",), BadSetting))
        for bad in STRANGE:
            with self.assertRaises(BadSetting):
                holds(AB, YES, bad)
        for bad in spoiled(("and", ("is", "a"), YES)):
            with self.assertRaises(BadCondition):
                holds(AB, bad, ())
        for bad in (["a"], ("b", "a"), ("a", "a")):
            with self.assertRaises(BadSetting):
                holds(AB, YES, bad)

    def test_plain(self):
        dice = dice_of(3)
        for house in HOUSES + (SEVEN,):
            for _ in range(15):
                condition = random_condition(dice, house[1], dice.randint(1, 12))
                told = plain(house, condition)
                self.assertTrue(is_plain(told, house[1]))
                for setting in slow_all(house):
                    self.assertEqual(slow_holds(told, setting), slow_holds(condition, setting))
                self.assertEqual(plain(house, told), told)

    def test_plain_by_hand(self):
        self.assertEqual(plain(OR, ("is", "b")), ("split", "b", YES, NO))
        self.assertEqual(plain(NONE, ("or", ("is", "b"), ("is", "a"))), ("split", "a", YES, ("split", "b", YES, NO)))
        self.assertEqual(plain(AB, ("split", "b", ("is", "a"), ("is", "a"))), ("split", "a", YES, NO))
        self.assertEqual(plain(AB, ("or", ("is", "a"), ("not", ("is", "a")))), YES)
        self.assertEqual(plain(NONE, YES), YES)

    def test_within(self):
        dice = dice_of(4)
        for house in HOUSES:
            for _ in range(15):
                condition = random_condition(dice, house[1], dice.randint(1, 9))
                assert_told(self, house, within(house, condition), slow_held(house, condition))
        self.assertEqual(within(NONE, YES), NO)
        self.assertEqual(within(OR, YES), ("split", "a", YES, ("split", "b", YES, NO)))

    def test_least_setting_and_how_many(self):
        dice = dice_of(5)
        for house in HOUSES:
            for _ in range(25):
                condition = random_condition(dice, house[1], dice.randint(1, 9))
                held = slow_held(house, condition)
                self.assertEqual(how_many(house, condition), len(held))
                fewest = [setting for setting in held if len(setting) == min(map(len, held))]
                self.assertEqual(least_setting(house, condition), fewest[0] if held else None)

    def test_least_setting_by_hand(self):
        self.assertEqual(least_setting(OR, YES), ("b",))
        self.assertEqual(least_setting(ODD, ("is", "a")), ("a",))
        self.assertIs(least_setting(NONE, YES), None)
        self.assertEqual(how_many(NONE, YES), 0)
        self.assertEqual(how_many(SEVEN, ("is", "d")), 64)

    def test_conditions_are_refused(self):
        for function in (plain, within, least_setting, how_many):
            assert_judged(self, function, (OR, YES), (0, ("house", ["a", "b"], YES), BadHouse),
                          (1, ("is", "q"), BadCondition))
            for bad in STRANGE:
                if bad != YES:
                    with self.assertRaises(BadCondition):
                        function(AB, bad)

    def test_fate(self):
        self.assertEqual(fate(OR, "a"), "free")
        self.assertEqual(fate(NONE, "a"), "none")
        self.assertEqual(fate(("house", ("a", "b"), ("is", "a")), "a"), "on")
        self.assertEqual(fate(("house", ("a", "b"), ("is", "a")), "b"), "free")
        self.assertEqual(fate(("house", ("a", "b"), ("not", ("or", ("is", "a"), ("is", "b")))), "b"), "off")
        for house in HOUSES:
            for s in house[1]:
                kinds = {s in setting for setting in slow_let(house)}
                expected = {0: "none", 2: "free"}.get(len(kinds)) or ("on" if kinds == {True} else "off")
                self.assertEqual(fate(house, s), expected)

    def test_fate_refuses(self):
        assert_judged(self, fate, (AB, "a"), (0, 3, BadHouse), (1, "c", BadSwitch))
        for bad in STRANGE + (("a",), "ab", b"a"):
            if bad != "a":
                with self.assertRaises(BadSwitch):
                    fate(AB, bad)

    def test_nothing_passed_is_changed(self):
        thing = ["house", ["a"], ["yes"]]
        self.assertIs(is_house(thing), False)
        self.assertEqual(thing, ["house", ["a"], ["yes"]])

    def test_one_switch(self):
        self.assertEqual(settings(ONE), ((), ("a",)))


if __name__ == "__main__":
    unittest.main()

"""Points 111 and 112, and what point 115 says of them: switches that are retired or joined."""

import unittest

from manybuilds.conditions import fate, is_house
from manybuilds.errors import BadHouse, BadLine, BadSetting, BadStep, LastSwitch
from manybuilds.lines import is_line
from manybuilds.running import run
from manybuilds.stepping import after, back, is_step, lost
from tests.helpers import (
    AB, HOUSES, NO, NONE, ODD, ONE, OR, SEVEN, STRANGE, YES, assert_judged, assert_told, dice_of, is_plain, num, plus,
    random_house, random_line, slow_all, slow_build, slow_holds, slow_let, slow_nodes, spoiled, when)
from tests.test_books import LINE, lines
from tests.test_forks import A, B, NOT_A
from tests.test_ties import TRUE

THREE = ("house", ("a", "b", "c"), YES)


def retire(s, side):
    return ("retire", s, side)


def join(s, t, how):
    return ("join", s, t, how)


def steps_of(house):
    """All steps of the house."""
    steps = [retire(s, side) for s in house[1] for side in ("on", "off")]
    return steps + [join(s, t, how) for s in house[1] for t in house[1] if s != t for how in ("as", "against")]


def slow_back(house, step, setting):
    """The setting of the house in which all other switches are as in the new one, and the one that goes as told."""
    if step[0] == "retire":
        is_on = step[2] == "on"
    else:
        is_on = (step[2] in setting) is (step[3] == "as")
    return tuple(s for s in house[1] if s in setting or (s == step[1] and is_on))


def slow_lost(house, line, step):
    """The let settings whose builds are those of no let setting for which a new one stands."""
    others = tuple(s for s in house[1] if s != step[1])
    olds = [slow_back(house, step, setting) for setting in slow_all(("house", others, YES))]
    kept = [slow_build(line, old) for old in olds if slow_holds(house[2], old)]
    return [setting for setting in slow_let(house) if slow_build(line, setting) not in kept]


class TestIsStep(unittest.TestCase):
    def test_steps(self):
        for house in (ONE, AB, NONE, ODD, SEVEN):
            for step in steps_of(house):
                self.assertIs(is_step(house, step), True, step)

    def test_no_steps(self):
        for thing in STRANGE + (
                retire("c", "on"), retire("a", "yes"), retire("a", "as"), retire("a", True), ("retire", "a"),
                retire("a", "on") + ("on",), join("a", "a", "as"), join("a", "b", "on"), join("a", "c", "as"), join("c", "a", "as"),
                ("join", "a", "b"), join("a", "b", "as") + ("as",), ("retired", "a", "on"), ("joins", "a", "b", "as"),
                ("join", "a", "on"), ("retire", "a", "b", "as"), retire(("a",), "on"), retire(0, "on"), (), ("retire",),
                join("a", "b", "against")[::-1]):
            self.assertIs(is_step(AB, thing), False, thing)

    def test_spoiled(self):
        for step in (retire("a", "on"), join("a", "b", "against")):
            for wrong in spoiled(step):
                self.assertIs(is_step(AB, wrong), False, wrong)

    def test_a_house_of_one_switch(self):
        self.assertIs(is_step(ONE, retire("a", "on")), True)
        self.assertIs(is_step(ONE, join("a", "a", "as")), False)

    def test_wrong_house(self):
        assert_judged(self, is_step, [AB, retire("a", "on")], (0, AB[1], BadHouse))


class TestAfter(unittest.TestCase):
    def test_example(self):
        house, line = after(OR, LINE, retire("b", "on"))
        self.assertEqual(house, ("house", ("a",), YES))
        self.assertEqual(line, LINE[:2] + (("if", TRUE) + LINE[2][2:],))
        self.assertEqual(lost(OR, LINE, retire("b", "on")), ("split", "a", ("split", "b", NO, YES), NO))

    def test_rules(self):
        # The rule is plain, and over the switches that are left.
        self.assertEqual(after(OR, num(1), retire("a", "off"))[0], ("house", ("b",), B))
        self.assertEqual(after(OR, num(1), join("a", "b", "as"))[0], ("house", ("b",), B))
        self.assertEqual(after(OR, num(1), join("a", "b", "against"))[0], ("house", ("b",), YES))
        self.assertEqual(after(OR, num(1), join("b", "a", "as"))[0], ("house", ("a",), A))
        self.assertEqual(after(AB, num(1), retire("a", "on"))[0], ("house", ("b",), YES))
        self.assertEqual(after(NONE, num(1), retire("a", "on"))[0], ("house", ("b",), NO))
        self.assertEqual(after(("house", ("a", "b"), ("is", "a")), num(1), retire("a", "off"))[0], ("house", ("b",), NO))
        self.assertEqual(after(THREE, num(1), retire("b", "off"))[0], ("house", ("a", "c"), YES))
        same = ("house", ("b", "a"), ("split", "a", ("is", "b"), ("not", ("is", "b"))))
        self.assertEqual(after(same, num(1), join("b", "a", "against"))[0], ("house", ("a",), NO))
        self.assertEqual(after(same, num(1), join("b", "a", "as"))[0], ("house", ("a",), YES))

    def test_choices(self):
        line = plus(when("a", num(1), num(2)), when("b", num(3), num(4)))
        for step, expected in (
                (retire("a", "on"), plus(num(1), line[2])), (retire("a", "off"), plus(num(2), line[2])),
                (retire("b", "off"), plus(line[1], num(4))), (join("a", "b", "as"), plus(when("b", num(1), num(2)), line[2])),
                (join("a", "b", "against"), plus(when("b", num(2), num(1)), line[2])),
                (join("b", "a", "against"), plus(line[1], when("a", num(4), num(3))))):
            self.assertEqual(after(AB, line, step)[1], expected)

    def test_choices_within_choices_of_the_same_switch(self):
        line = when("a", when("a", num(1), num(2)), when("b", when("a", num(3), num(4)), when("a", num(5), num(6))))
        for step, expected in (
                (retire("a", "on"), num(1)), (retire("a", "off"), when("b", num(4), num(6))),
                (retire("b", "on"), when("a", line[2], line[3][2])),
                (join("a", "b", "as"), when("b", when("b", num(1), num(2)), when("b", when("b", num(3), num(4)),
                                                                                    when("b", num(5), num(6))))),
                (join("a", "b", "against"), when("b", when("b", when("b", num(4), num(3)), when("b", num(6), num(5))),
                                                  when("b", num(2), num(1)))),
                (join("b", "a", "against"), when("a", line[2], when("a", line[3][3], line[3][2])))):
            self.assertEqual(after(AB, line, step)[1], expected)

    def test_what_is_left(self):
        dice = dice_of(1111)
        for house in HOUSES + tuple(random_house(dice, dice.randint(2, 5)) for _ in range(20)):
            if len(house[1]) == 1:
                continue
            for step in dice.sample(steps_of(house), 5):
                line = random_line(dice, house[1], 20, 0.6)
                new_house, new_line = after(house, line, step)
                self.assertIs(is_house(new_house), True)
                self.assertEqual(new_house[1], tuple(s for s in house[1] if s != step[1]))
                self.assertTrue(is_plain(new_house[2], new_house[1]))
                self.assertIs(is_line(new_house, new_line), True)
                if step[0] == "join":
                    self.assertEqual(len(slow_nodes(new_line)), len(slow_nodes(line)))

    def test_new_settings_are_let_and_built_as_their_old_ones(self):
        dice = dice_of(1112)
        kinds = {True: 0, False: 0}
        for house, line, _ in lines(1113, 5):
            if len(house[1]) == 1:
                continue
            for step in dice.sample(steps_of(house), 4):
                new_house, new_line = after(house, line, step)
                for setting in slow_all(new_house):
                    old = back(house, step, setting)
                    let = slow_holds(new_house[2], setting)
                    self.assertIs(let, slow_holds(house[2], old))
                    self.assertEqual(slow_build(new_line, setting), slow_build(line, old))
                    kinds[let] += 1
        self.assertGreater(min(kinds.values()), 50)

    def test_seven_switches(self):
        line = num(0)
        for s in SEVEN[1]:
            line = plus(line, when(s, num(1), num(0)))
        house, new = after(SEVEN, line, join("d", "a", "against"))
        self.assertEqual(house, ("house", ("g", "f", "e", "c", "b", "a"), YES))
        self.assertEqual(run(slow_build(new, ("g", "a"))), ((), ("ends", 2)))
        self.assertEqual(run(slow_build(new, ("g",))), ((), ("ends", 2)))

    def test_wrong_values(self):
        for bad in STRANGE + (retire("c", "on"), join("a", "a", "as"), ["retire", "a", "on"]):
            for function in (after, lost):
                assert_judged(self, function, [AB, LINE, retire("a", "on")], (0, None, BadHouse), (1, when("c", num(1), num(2)), BadLine),
                              (2, bad, BadStep))
        for function in (after, lost):
            with self.assertRaises(LastSwitch):
                function(ONE, num(1), retire("a", "on"))
            # What is no step at all comes first.
            with self.assertRaises(BadStep):
                function(ONE, num(1), join("a", "a", "as"))
            with self.assertRaises(BadStep):
                function(ONE, num(1), retire("b", "on"))
            with self.assertRaises(BadLine):
                function(ONE, LINE, retire("a", "on"))


class TestBack(unittest.TestCase):
    def test_by_hand(self):
        for step, setting, old in (
                (retire("b", "on"), ("a", "c"), ("a", "b", "c")), (retire("b", "on"), (), ("b",)), (retire("b", "off"), ("c",), ("c",)),
                (join("a", "c", "as"), ("c",), ("a", "c")), (join("a", "c", "as"), ("b",), ("b",)),
                (join("a", "c", "against"), ("c",), ("c",)), (join("a", "c", "against"), (), ("a",)),
                (join("c", "a", "against"), ("b",), ("b", "c")), (join("c", "a", "as"), ("a", "b"), ("a", "b", "c"))):
            self.assertEqual(back(THREE, step, setting), old)

    def test_let_or_not(self):
        self.assertEqual(back(NONE, retire("a", "on"), ("b",)), ("a", "b"))
        self.assertEqual(back(OR, retire("a", "off"), ()), ())

    def test_against_slow(self):
        for house in HOUSES:
            for step in steps_of(house) if len(house[1]) > 1 else ():
                others = tuple(s for s in house[1] if s != step[1])
                for setting in slow_all(("house", others, YES)):
                    self.assertEqual(back(house, step, setting), slow_back(house, step, setting))

    def test_wrong_values(self):
        bads = [bad for bad in STRANGE if bad not in ((), ("a",))] + [("b",), ("a", "b"), ("c", "a"), ["a"], ("a", "a"), ("d",)]
        for bad in bads:
            assert_judged(self, back, [THREE, retire("b", "on"), ("a", "c")], (0, (), BadHouse), (1, retire("b", "b"), BadStep),
                          (2, bad, BadSetting))
        with self.assertRaises(LastSwitch):
            back(ONE, retire("a", "on"), ("a",))
        with self.assertRaises(LastSwitch):
            back(ONE, retire("a", "on"), ())
        with self.assertRaises(BadStep):
            back(ONE, join("a", "a", "as"), None)


class TestLost(unittest.TestCase):
    def test_by_hand(self):
        line = when("a", num(1), num(2))
        self.assertEqual(lost(AB, line, retire("a", "on")), NOT_A)
        self.assertEqual(lost(AB, line, retire("a", "off")), A)
        self.assertEqual(lost(AB, line, retire("b", "off")), NO)
        self.assertEqual(lost(AB, line, join("a", "b", "against")), NO)
        self.assertEqual(lost(OR, line, join("a", "b", "as")), ("split", "a", NO, B))
        self.assertEqual(lost(NONE, line, retire("a", "on")), NO)
        # All is lost where no new setting is let.
        self.assertEqual(lost(("house", ("a", "b"), ("is", "a")), line, retire("a", "off")), A)
        # Builds count, not what they show.
        self.assertEqual(lost(AB, when("a", num(3), plus(num(1), num(2))), retire("a", "on")), NOT_A)

    def test_against_slow(self):
        dice = dice_of(1121)
        some = 0
        for house, line, _ in lines(1122, 5):
            if len(house[1]) == 1:
                continue
            for step in dice.sample(steps_of(house), 4):
                condition = lost(house, line, step)
                assert_told(self, house, condition, slow_lost(house, line, step))
                some += condition != NO
        self.assertGreater(some, 50)

    def test_fate_tells_what_may_be_retired_so(self):
        dice = dice_of(1123)
        told = 0
        houses = tuple(random_house(dice, dice.randint(2, 4)) for _ in range(60))
        for house in HOUSES + houses:
            for s in house[1] if len(house[1]) > 1 else ():
                if fate(house, s) in ("on", "off"):
                    told += 1
                    line = random_line(dice, house[1], 15, 0.6)
                    self.assertEqual(lost(house, line, retire(s, fate(house, s))), NO)
        self.assertGreater(told, 10)


if __name__ == "__main__":
    unittest.main()

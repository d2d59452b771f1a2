"""Points 30, 31 and 32, and the example of point 34."""

import unittest

from manybuilds.errors import BadCube, BadHouse, BadLine, BadPath, BadSetting
from manybuilds.lines import build, builds, chosen, is_expression, is_line, same_builds, same_where, stands
from manybuilds.words import KEPT
from tests.helpers import (
    AB, HOUSES, NO, NONE, ODD, OR, SEVEN, STRANGE, YES, assert_judged, assert_told, changed, deep, dice_of, num,
    plus, random_line, slow_all, slow_build, slow_builds, slow_choices, slow_let, slow_paths, spoiled, when)

EXAMPLE = when("a", plus(num(1), when("b", num(2), num(3))), num(4))
ALL_KINDS = (
    num(0), num(1), num(999), ("truth", "yes"), ("truth", "no"), ("name", "x"), ("name", "abcdefgh"),
    ("let", "x", num(1), ("name", "x")), ("set", "x", num(0)), plus(num(1), num(2)), ("less", num(1), num(2)),
    ("if", ("truth", "no"), num(1), num(2)), ("show", num(1)), ("then", num(1), num(2)),
)
NO_LINES = (
    num(-1), num(1000), ("number",), ("number", 1, 1), ("number", "1"), ("number", num(1)), ("truth",), ("truth", "maybe"),
    ("truth", True), ("name",), ("name", "X"), ("name", ""), ("name", "abcdefghi"), ("name", 1), ("name", ("x",)),
    ("let", "x", num(1)), ("let", "in", num(1), num(1)), ("let", num(1), num(1), num(1)), ("set", "x"), ("set", num(1), num(1)),
    ("set", "x", num(1), num(1)), ("plus", num(1)), ("plus", num(1), num(1), num(1)), ("plus", 1, 1), ("less", num(1)),
    ("less", num(1), 2), ("if", num(1), num(1)), ("if", num(1), num(1), num(1), num(1)), ("show",), ("show", 1),
    ("show", num(1), num(1)), ("then", num(1)), ("then", num(1), "x"), ("minus", num(1), num(1)), ("choice", "a", num(1)),
    ("choice", "q", num(1), num(1)), ("choice", num(1), num(1)), ("choice", None, num(1), num(1)),
    ("choice", ("a",), num(1), num(1)), ("choice", ["a"], num(1), num(1)),
)
BAD_PATHS = (
    None, [], [1], "", 1, (0,), (1,), (4,), (-1,), (-2,), (2, 0), (2, 3), (2, 1, 1), (2, -1), (True,), (False,), ("2",),
    ((2,),), (2, 1, None), {}, {2}, range(1),
)


class TestExpressions(unittest.TestCase):
    def test_expressions(self):
        for thing in ALL_KINDS:
            self.assertIs(is_expression(thing), True)
            self.assertIs(is_line(AB, thing), True)
            for wrong in spoiled(thing):
                self.assertIs(is_expression(wrong), False, wrong)
                self.assertIs(is_line(AB, wrong), False, wrong)

    def test_any_value(self):
        for thing in STRANGE + NO_LINES:
            self.assertIs(is_expression(thing), False, thing)
            self.assertIs(is_line(AB, thing), False, thing)
            self.assertIs(is_line(AB, plus(num(1), thing)), False, thing)
            self.assertIs(is_expression(plus(num(1), thing)), False, thing)

    def test_true_is_no_number(self):
        self.assertIs(is_expression(("number", True)), False)
        self.assertIs(is_expression(("show", ("number", False))), False)

    def test_names(self):
        for word in KEPT:
            for thing in (("name", word), ("set", word, num(1)), ("let", word, num(1), num(1))):
                self.assertIs(is_expression(thing), False, thing)

    def test_choices_are_of_switches(self):
        self.assertIs(is_line(AB, EXAMPLE), True)
        self.assertIs(is_expression(EXAMPLE), False)
        self.assertIs(is_expression(plus(num(1), EXAMPLE)), False)
        self.assertIs(is_line(("house", ("a",), YES), EXAMPLE), False)
        self.assertIs(is_line(NONE, EXAMPLE), True)
        for wrong in spoiled(EXAMPLE):
            self.assertIs(is_line(AB, wrong), False, wrong)

    def test_deep_lines(self):
        line = num(1)
        for level in range(58):
            line = when("ab"[level % 2], line, num(2)) if level % 3 else ("show", line)
        self.assertIs(is_line(AB, line), True)
        self.assertIs(is_line(AB, ("show", deep(58))), False)

    def test_is_line_refuses(self):
        for bad in STRANGE:
            with self.assertRaises(BadHouse):
                is_line(bad, num(1))
        with self.assertRaises(BadHouse):
            is_line(None, None)


class TestBuilds(unittest.TestCase):
    def test_by_hand(self):
        three = plus(num(1), num(3))
        two = plus(num(1), num(2))
        self.assertEqual(build(OR, EXAMPLE, ("b",)), num(4))
        self.assertEqual(build(OR, EXAMPLE, ("a",)), three)
        self.assertEqual(build(OR, EXAMPLE, ("a", "b")), two)
        self.assertEqual(build(OR, EXAMPLE, ()), num(4))
        self.assertEqual([tree for tree, _ in builds(OR, EXAMPLE)], [num(4), three, two])
        self.assertEqual(builds(OR, EXAMPLE)[1][1], ("split", "a", ("split", "b", NO, YES), NO))
        self.assertEqual(builds(NONE, EXAMPLE), ())

    def test_against_slow(self):
        dice = dice_of(9)
        for house in HOUSES:
            for _ in range(12):
                line = random_line(dice, house[1], dice.randint(1, 30))
                for setting in slow_all(house):
                    self.assertEqual(build(house, line, setting), slow_build(line, setting))
                self.assert_builds(house, line)

    def assert_builds(self, house, line):
        told = builds(house, line)
        self.assertIs(type(told), tuple)
        trees = slow_builds(house, line)
        first = []
        for tree in trees.values():
            if tree not in first:
                first.append(tree)
        self.assertEqual([pair[0] for pair in told], first)
        for tree, condition in told:
            assert_told(self, house, condition, [setting for setting in trees if trees[setting] == tree])

    def test_build_refuses(self):
        assert_judged(self, build, (OR, EXAMPLE, ()), (0, None, BadHouse), (1, ("show",), BadLine), (2, ("c",), BadSetting))
        for bad in STRANGE + (("b", "a"), ["a"], ("a", "a")):
            with self.assertRaises(BadSetting):
                build(OR, EXAMPLE, bad)

    def test_chosen(self):
        self.assertEqual(chosen(OR, EXAMPLE, ((), ())), EXAMPLE)
        self.assertEqual(chosen(OR, EXAMPLE, (("b",), ())), when("a", plus(num(1), num(2)), num(4)))
        self.assertEqual(chosen(OR, EXAMPLE, ((), ("b",))), when("a", plus(num(1), num(3)), num(4)))
        self.assertEqual(chosen(OR, EXAMPLE, (("a",), ())), plus(num(1), when("b", num(2), num(3))))
        self.assertEqual(chosen(OR, EXAMPLE, ((), ("a",))), num(4))
        self.assertEqual(chosen(OR, EXAMPLE, ((), ("a", "b"))), num(4))
        nested = when("a", when("a", num(1), num(2)), when("b", when("a", num(3), num(4)), num(5)))
        self.assertEqual(chosen(OR, nested, (("a",), ())), num(1))
        self.assertEqual(chosen(OR, nested, ((), ("a",))), when("b", num(4), num(5)))
        self.assertEqual(chosen(OR, nested, (("b",), ())), when("a", when("a", num(1), num(2)), when("a", num(3), num(4))))

    def test_chosen_of_a_whole_setting_is_the_build(self):
        dice = dice_of(10)
        for house in HOUSES:
            line = random_line(dice, house[1], 25)
            for setting in slow_all(house):
                cube = (setting, tuple(s for s in house[1] if s not in setting))
                self.assertEqual(chosen(house, line, cube), build(house, line, setting))

    def test_chosen_refuses(self):
        assert_judged(self, chosen, (OR, EXAMPLE, ((), ())), (0, None, BadHouse), (1, (), BadLine), (2, (), BadCube))
        wrong = ((("a",), ("a",)), (("b", "a"), ()), (("a", "a"), ()), (("q",), ()), ((), ["a"]), [(), ()], ((), (), ()))
        for bad in STRANGE + wrong:
            with self.assertRaises(BadCube):
                chosen(OR, EXAMPLE, bad)
        for bad in spoiled((("a",), ("b",))):
            with self.assertRaises(BadCube):
                chosen(OR, EXAMPLE, bad)


class TestSame(unittest.TestCase):
    def test_by_hand(self):
        one = when("a", num(1), num(2))
        other = when("b", num(1), num(2))
        self.assertEqual(same_where(OR, one, other), ("split", "a", ("split", "b", YES, NO), NO))
        self.assertEqual(same_where(AB, one, other), ("split", "a", ("split", "b", YES, NO), ("split", "b", NO, YES)))
        self.assertIs(same_builds(OR, one, other), False)
        self.assertIs(same_builds(OR, one, when("a", num(1), when("b", num(2), num(7)))), True)
        self.assertIs(same_builds(AB, one, when("a", num(1), when("b", num(2), num(7)))), False)
        self.assertIs(same_builds(NONE, one, other), True)
        self.assertEqual(same_where(NONE, one, one), NO)

    def test_against_slow(self):
        dice = dice_of(11)
        for house in HOUSES:
            for _ in range(12):
                one = random_line(dice, house[1], 12)
                other = dice.choice((changed(dice, one, 0.1), random_line(dice, house[1], 6)))
                same = [s for s in slow_let(house) if slow_build(one, s) == slow_build(other, s)]
                assert_told(self, house, same_where(house, one, other), same)
                self.assertIs(same_builds(house, one, other), same == slow_let(house))

    def test_refused(self):
        for function in (same_where, same_builds):
            assert_judged(self, function, (OR, num(1), num(2)), (0, None, BadHouse), (1, num(True), BadLine), (2, None, BadLine))
        for bad in STRANGE + NO_LINES:
            for function in (same_where, same_builds):
                with self.assertRaises(BadLine):
                    function(AB, num(1), bad)
                with self.assertRaises(BadLine):
                    function(AB, bad, num(1))
            with self.assertRaises(BadLine):
                builds(AB, bad)
        assert_judged(self, builds, (OR, EXAMPLE), (0, (), BadHouse), (1, (), BadLine))

    def test_seven_switches(self):
        line = num(0)
        for at, s in enumerate(SEVEN[1]):
            line = plus(when(s, num(at), num(9)), line)
        told = builds(SEVEN, line)
        self.assertEqual(len(told), 128)
        self.assertEqual(told[0][0], slow_build(line, ()))


class TestStands(unittest.TestCase):
    def test_by_hand(self):
        self.assertEqual(stands(OR, EXAMPLE, ()), ("split", "a", YES, ("split", "b", YES, NO)))
        self.assertEqual(stands(AB, EXAMPLE, ()), YES)
        self.assertEqual(stands(AB, EXAMPLE, (2,)), ("split", "a", YES, NO))
        self.assertEqual(stands(AB, EXAMPLE, (2, 2, 3)), ("split", "a", ("split", "b", NO, YES), NO))
        self.assertEqual(stands(AB, EXAMPLE, (3,)), ("split", "a", NO, YES))
        self.assertEqual(stands(NONE, EXAMPLE, (3,)), NO)
        self.assertEqual(stands(AB, when("a", when("a", num(1), num(2)), num(3)), (2, 3)), NO)

    def test_against_slow(self):
        dice = dice_of(12)
        for house in HOUSES:
            for _ in range(6):
                line = random_line(dice, house[1], 20)
                for path in slow_paths(line):
                    held = []
                    for setting in slow_let(house):
                        node, stays = line, True
                        for index in path:
                            if node[0] == "choice":
                                stays = stays and (index == 2) == (node[1] in setting)
                            node = node[index]
                        if stays:
                            held.append(setting)
                    assert_told(self, house, stands(house, line, path), held)

    def test_paths_that_lead_to_nothing(self):
        for bad in BAD_PATHS + tuple(thing for thing in STRANGE if thing != ()):
            with self.assertRaises(BadPath):
                stands(OR, EXAMPLE, bad)
        for line in ALL_KINDS:
            for index in (-3, -2, -1, 0, 1, 2, 3, 4, True, False, None):
                good = index is not True and index is not False and index in [path[0] for path in slow_paths(line) if path]
                if not good:
                    with self.assertRaises(BadPath):
                        stands(AB, line, (index,))

    def test_true_is_no_index(self):
        self.assertEqual(stands(AB, plus(num(1), num(2)), (1,)), YES)
        for bad in ((True,), [1], (1, 1), (1, 0), ("1",)):
            with self.assertRaises(BadPath):
                stands(AB, plus(num(1), num(2)), bad)

    def test_refused(self):
        assert_judged(self, stands, (ODD, EXAMPLE, ()), (0, (), BadHouse), (1, (), BadLine), (2, (1,), BadPath))
        self.assertEqual(slow_choices(EXAMPLE), 2)


if __name__ == "__main__":
    unittest.main()

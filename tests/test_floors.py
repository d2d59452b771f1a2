"""Point 42: floors, and the example of point 46."""

import unittest

from manybuilds.errors import BadHouse, BadLine, TooMany
from manybuilds.floors import floor, is_floor
from manybuilds.least import least
from tests.helpers import (
    AB, HOUSES, NONE, ODD, ONE, OR, SEVEN, STRANGE, YES, assert_judged, dice_of, num, plus, random_line,
    slow_builds, slow_choices, slow_label, slow_let, slow_lines, slow_parts, spoiled, when)

TREE = plus(when("a", num(1), num(2)), when("a", num(3), num(4)))
ALL = ((), ("b",), ("a",), ("a", "b"))


def slow_row(house, line, place):
    """The nodes at the place by settings, or None if it is no place."""
    path, lot = place
    row = {setting: tree for setting, tree in slow_builds(house, line).items() if setting in lot}
    for index in path:
        if len({slow_label(tree) for tree in row.values()}) != 1:
            return None
        below = {}
        for setting, tree in row.items():
            if not 1 <= index < len(tree) or not isinstance(tree[index], tuple):
                return None
            below[setting] = tree[index]
        row = below
    return row


def slow_floor(house, line):
    """The pairs of a floor as the document tells them, costs by a slow search."""
    let = slow_let(house)
    done, todo = {}, [((), tuple(let))] if let else []
    while todo:
        place = todo.pop()
        if place in done:
            continue
        path, lot = place
        row = slow_row(house, line, place)
        done[place] = next(most for most in range(9) if slow_lines(house[1], row, most))
        if len({slow_label(tree) for tree in row.values()}) == 1:
            tree = row[lot[0]]
            first = len(slow_label(tree))
            todo += [(path + (first + at,), lot) for at in range(len(slow_parts(tree)))]
        todo += [(path, side) for sides in slow_partings(house, lot) for side in sides]
    pairs = [(place, cost) for place, cost in done.items() if cost > 0]
    return tuple(sorted(pairs, key=lambda pair: (pair[0][0], -len(pair[0][1]), [let.index(s) for s in pair[0][1]])))


def rule_of(house, lot):
    """A rule that lets just the settings of the lot."""
    rule = ("no",)
    for setting in lot:
        cube = YES
        for s in house[1]:
            cube = ("and", cube, ("is", s) if s in setting else ("not", ("is", s)))
        rule = ("or", rule, cube)
    return rule


def slow_partings(house, lot):
    found = []
    for s in house[1]:
        on = tuple(setting for setting in lot if s in setting)
        off = tuple(setting for setting in lot if s not in setting)
        if on and off:
            found.append((on, off))
    return found


class TestFloor(unittest.TestCase):
    def test_by_hand(self):
        lots = (ALL, ((), ("a",)), (("b",), ("a", "b")))
        self.assertEqual(floor(AB, TREE), tuple(((path, lot), 1) for path in ((), (1,), (2,)) for lot in lots))

    def test_order_and_costs(self):
        line = plus(when("a", num(1), num(2)), when("b", num(3), num(4)))
        self.assertEqual(floor(AB, line), (
            (((), ALL), 2), (((), ((), ("b",))), 1), (((), ((), ("a",))), 1), (((), (("b",), ("a", "b"))), 1),
            (((), (("a",), ("a", "b"))), 1),
            (((1,), ALL), 1), (((1,), ((), ("a",))), 1), (((1,), (("b",), ("a", "b"))), 1),
            (((2,), ALL), 1), (((2,), ((), ("b",))), 1), (((2,), (("a",), ("a", "b"))), 1)))

    def test_none_and_even(self):
        self.assertEqual(floor(NONE, TREE), ())
        self.assertEqual(floor(AB, num(3)), ())
        self.assertEqual(floor(AB, when("a", num(3), num(3))), ())
        self.assertEqual(floor(("house", ("a", "b"), ("is", "a")), TREE), ())

    def test_against_slow(self):
        dice = dice_of(20)
        houses = [house for house in HOUSES if len(house[1]) <= 3]
        done = 0
        for _ in range(120):
            house = dice.choice(houses)
            line = random_line(dice, house[1], dice.randint(5, 10), 0.5)
            if slow_choices(line) > 3:
                continue
            told = floor(house, line)
            self.assertEqual(told, slow_floor(house, line))
            self.assertIs(is_floor(house, line, told), True)
            done += bool(told)
        self.assertGreater(done, 15)

    def test_the_first_number_is_that_of_the_least_line(self):
        dice = dice_of(21)
        for house in HOUSES:
            for _ in range(8):
                line = random_line(dice, house[1], 12, 0.5)
                told = floor(house, line)
                choices = slow_choices(least(house, line))
                first = [cost for place, cost in told if place == ((), tuple(slow_let(house)))]
                self.assertEqual(first, [choices] if choices else [])
                self.assertTrue(all(type(cost) is int and cost > 0 for _, cost in told))

    def test_each_other_floor_has_no_greater_number(self):
        told = floor(AB, TREE)
        for at, (place, cost) in enumerate(told):
            self.assertIs(is_floor(AB, TREE, told[:at] + ((place, cost + 1),) + told[at + 1:]), False)

    def test_places_are_counted_for_each_path(self):
        six = ("house", ("a", "b", "c", "d", "e", "f"), YES)
        one = when("a", num(1), num(2))
        # A place for each cube that leaves a open: 3 ** 5 of them at each path.
        self.assertEqual(len(floor(six, one)), 243)
        with self.assertRaises(TooMany) as caught:
            floor(six, ("show", one))
        self.assertEqual(caught.exception.most, 400)
        five = ("house", ("a", "b", "c", "d", "e"), YES)
        line = one
        for many in (1, 2, 3, 4):
            self.assertEqual(len(floor(five, line)), 81 * many)
            line = ("show", line)
        with self.assertRaises(TooMany):
            floor(five, line)

    def test_just_four_hundred(self):
        line = balanced(200)
        self.assertEqual(len(floor(ONE, line)), 399)
        self.assertEqual(len(floor(ONE, ("show", line))), 400)
        with self.assertRaises(TooMany) as caught:
            floor(ONE, ("show", ("show", line)))
        self.assertEqual(caught.exception.most, 400)

    def test_too_many_is_behind_all_other_errors(self):
        wide = balanced(300)
        with self.assertRaises(TooMany):
            floor(ONE, wide)
        with self.assertRaises(BadHouse):
            floor(None, wide)
        with self.assertRaises(BadLine):
            floor(ONE, plus(wide, ("show", True)))

    def test_seven_switches(self):
        with self.assertRaises(TooMany):
            floor(SEVEN, when("a", num(1), num(2)))
        few = ("house", SEVEN[1], rule_of(SEVEN, ((), ("b",), ("a",))))
        self.assertEqual(floor(few, when("a", num(1), num(2))),
                         ((((), ((), ("a",), ("b",))), 1), (((), ((), ("a",))), 1)))

    def test_refused(self):
        assert_judged(self, floor, (AB, TREE), (0, [], BadHouse), (1, (), BadLine))
        for bad in STRANGE:
            with self.assertRaises(BadLine):
                floor(AB, bad)
            with self.assertRaises(BadLine):
                is_floor(AB, bad, ())
            with self.assertRaises(BadHouse):
                is_floor(bad, TREE, ())


def balanced(many):
    """A tree of plus with so many choices of a as leaves: 2 * many - 1 paths."""
    if many == 1:
        return when("a", num(1), num(2))
    return plus(balanced(many // 2), balanced(many - many // 2))


class TestIsFloor(unittest.TestCase):
    def test_small_floors(self):
        self.assertIs(is_floor(AB, TREE, ()), True)
        self.assertIs(is_floor(AB, TREE, ((((), ALL), 0),)), True)
        self.assertIs(is_floor(AB, TREE, ((((), ALL), 1),)), False)
        self.assertIs(is_floor(NONE, TREE, ()), True)
        self.assertIs(is_floor(NONE, TREE, ((((), ()), 0),)), False)
        self.assertIs(is_floor(AB, num(1), ((((), ALL), 1),)), False)
        self.assertIs(is_floor(AB, num(1), ((((), (("a",),)), 0),)), True)
        self.assertIs(is_floor(AB, when("a", num(1), num(2)), ((((), ((), ("a",))), 1),)), True)
        self.assertIs(is_floor(AB, when("a", num(1), num(2)), ((((), ((), ("a",))), 2),)), False)
        self.assertIs(is_floor(AB, when("a", num(1), num(2)), ((((), ((), ("b",))), 1),)), False)

    def test_the_order_of_pairs_is_free(self):
        told = floor(AB, TREE)
        self.assertIs(is_floor(AB, TREE, told[::-1]), True)
        self.assertIs(is_floor(AB, TREE, told + told[:1]), False)
        self.assertIs(is_floor(AB, TREE, told + ((told[0][0], 0),)), False)

    def test_places_besides_those_of_floor(self):
        # No parting leads to this lot, but it is a place.
        lot = ((), ("b",), ("a",))
        self.assertIs(is_floor(AB, TREE, floor(AB, TREE) + (((((1,)), lot), 1),)), True)
        line = plus(when("a", num(1), num(2)), num(3))
        self.assertIs(is_floor(AB, line, ((((1,), lot), 1),)), True)
        self.assertIs(is_floor(AB, line, ((((1,), lot), 2),)), False)
        self.assertIs(is_floor(AB, line, ((((2,), lot), 1),)), False)
        self.assertIs(is_floor(AB, line, ((((1,), lot), 1), (((), lot), 1))), True)
        self.assertIs(is_floor(AB, line, ((((), lot), 1),)), False)
        # Where the nodes are unlike nothing is below.
        self.assertIs(is_floor(AB, when("a", ("show", num(1)), num(2)), ((((1,), ALL), 0),)), False)
        self.assertIs(is_floor(AB, when("a", ("show", num(1)), num(2)), ((((1,), (("a",),)), 0),)), True)
        self.assertIs(is_floor(AB, when("a", plus(num(1), num(2)), ("less", num(1), num(2))), ((((1,), ALL), 0),)), False)

    def test_no_places(self):
        for place in ((), ((),), ((), ()), ((), ALL, ()), ((), ALL[::-1]), ((), (("a",), ("a",))), ((), (("c",),)),
                      ((), ("a",)), ((), [("a",)]), ([], ALL), ((0,), ALL), ((3,), ALL), ((-1,), ALL), ((1, 1), ALL),
                      ((True,), ALL), ((None,), ALL), (("1",), ALL), ((), (["a"],)), ((), (("a", "b"), ("a",))),
                      None, ALL, (None, ALL), ((), None)):
            self.assertIs(is_floor(AB, TREE, ((place, 0),)), False, place)
        self.assertIs(is_floor(AB, TREE, ((((1,), ALL), 0),)), True)
        self.assertIs(is_floor(OR, TREE, ((((1,), ALL), 0),)), False)
        self.assertIs(is_floor(OR, TREE, ((((1,), ALL[1:]), 0),)), True)

    def test_numbers(self):
        for number, good in ((0, True), (-1, False), (True, False), (False, False), (None, False), ("0", False), ([], False)):
            self.assertIs(is_floor(AB, TREE, ((((1,), ALL), number),)), good, number)

    def test_any_value(self):
        for thing in STRANGE:
            self.assertIs(is_floor(AB, TREE, thing), thing == (), thing)
            self.assertIs(is_floor(AB, TREE, (thing,)), False, thing)
        told = floor(AB, TREE)
        for wrong in spoiled(told):
            self.assertIs(is_floor(AB, TREE, wrong), False, wrong)

    def test_parted_and_below(self):
        house = ("house", ("a",), YES)
        both = ((), ("a",))
        line = plus(when("a", num(1), num(2)), when("a", num(3), num(4)))
        self.assertIs(is_floor(house, line, ((((1,), both), 1), (((2,), both), 1), (((), both), 1))), True)
        # Below are two choices, but parted there is but one.
        self.assertIs(is_floor(house, line, ((((1,), both), 1), (((2,), both), 1), (((), both), 2))), False)
        self.assertIs(is_floor(house, line, ((((2,), both), 1), (((), both), 1))), True)
        self.assertIs(is_floor(house, line, ((((), both), 1),)), False)

    def test_lots_of_one_setting(self):
        for path in ((), (1,), (2,)):
            self.assertIs(is_floor(AB, TREE, (((path, (("a",),)), 1),)), False)
            self.assertIs(is_floor(AB, TREE, (((path, (("a",),)), 0),)), True)

    def test_odd_house(self):
        dice = dice_of(22)
        for _ in range(20):
            line = random_line(dice, ODD[1], 14, 0.5)
            told = floor(ODD, line)
            self.assertIs(is_floor(ODD, line, told), True)
            for at, (place, cost) in enumerate(told):
                self.assertIs(is_floor(ODD, line, told[:at] + ((place, cost + 1),) + told[at + 1:]), False)
        assert_judged(self, is_floor, (AB, TREE, ()), (0, [], BadHouse), (1, (), BadLine))


if __name__ == "__main__":
    unittest.main()

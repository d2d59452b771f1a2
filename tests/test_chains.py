"""Point 51, and what point 56 says of it: chains and clash cubes."""

import itertools
import unittest

from manybuilds.chains import chain, clash_cubes, is_chain
from manybuilds.errors import BadCube, BadHouse, BadLine
from manybuilds.ties import good_where
from tests.helpers import (
    AB, HOUSES, NO, NONE, OR, SEVEN, STRANGE, YES, assert_judged, dice_of, num, plus, random_house, random_line, slow_holds,
    slow_let, spoiled, when)
from tests.test_cubes import lies_in, slow_cubes
from tests.test_ties import FALSE, LINE, TRUE, X, slow_reached, slow_standing, slow_ties, typed_line

CUBE_A = (("a",), ())


def slow_common(house, line, cube):
    """The ties that stand in all let settings in the cube, None if there is no such setting."""
    settings = [setting for setting in slow_let(house) if lies_in(setting, cube)]
    if not settings:
        return None
    standing = [slow_standing(line, setting) for setting in settings]
    return {tie: ends for tie, ends in standing[0].items() if all(tie in known for known in standing)}


def slow_clash_cubes(house, line):
    """Cubes whose common ties join the two, while those of no cube that lacks any lot of their switches do."""
    found = []
    for cube in slow_cubes(house[1]):
        common = slow_common(house, line, cube)
        if common is not None and "truth" in slow_reached(list(common.values()), "number"):
            if not any(set(wide[0]) <= set(cube[0]) and set(wide[1]) <= set(cube[1]) for wide in found):
                found.append(cube)
    return tuple(found)


def slow_is_chain(pairs, thing):
    """Whether a tuple of ties leads from "number" to "truth" over unlike terms."""
    reached = ["number"]
    for tie in thing:
        if tie not in pairs or reached[-1] not in pairs[tie]:
            return False
        one, other = pairs[tie]
        reached.append(other if one == reached[-1] else one)
    return reached[-1] == "truth" and len(set(reached)) == len(reached)


def walks(dice, pairs, many):
    """Ways of some ties from "number" on, at times over a term twice."""
    found = []
    for _ in range(many):
        term, ties = "number", []
        for _ in range(dice.randint(1, 6)):
            onward = [(tie, ends) for tie, ends in sorted(pairs.items()) if term in ends]
            if not onward or term == "truth" and dice.random() < 0.8:
                break
            tie, ends = dice.choice(onward)
            ties.append(tie)
            term = ends[1] if ends[0] == term else ends[0]
        found.append(tuple(ties))
    return found


def cases(seed, many, size=16):
    dice = dice_of(seed)
    for house in HOUSES + tuple(random_house(dice, dice.randint(1, 3)) for _ in range(8)):
        for _ in range(many):
            if dice.random() < 0.4:
                yield house, random_line(dice, house[1], dice.randint(1, size)), dice
            else:
                yield house, typed_line(dice, house[1], dice.randint(4, 2 * size), wrong=dice.choice((0.1, 0.2, 0.3))), dice


class TestClashCubes(unittest.TestCase):
    def test_example(self):
        self.assertEqual(clash_cubes(AB, LINE), (CUBE_A, (("b",), ())))
        self.assertEqual(chain(AB, LINE, CUBE_A), (((), 1), ((1,), 2), ((1, 2), 0)))

    def test_by_hand(self):
        self.assertEqual(clash_cubes(AB, plus(num(1), TRUE)), (((), ()),))
        self.assertEqual(clash_cubes(AB, plus(num(1), num(2))), ())
        self.assertEqual(clash_cubes(NONE, plus(num(1), TRUE)), ())
        self.assertEqual(clash_cubes(AB, plus(num(1), when("a", when("b", num(1), TRUE), num(1)))), ((("a",), ("b",)),))
        # Neither tie stands in all settings, so each side is a cube of its own.
        self.assertEqual(clash_cubes(AB, plus(num(1), when("a", TRUE, FALSE))), ((((), ("a",)), (("a",), ()))))

    def test_by_the_rule(self):
        # Where b is off a is on, so b alone tells of a.
        line = plus(num(1), when("a", TRUE, num(1)))
        self.assertEqual(clash_cubes(OR, line), (((), ("b",)), (("a",), ())))
        self.assertEqual(clash_cubes(("house", ("a", "b"), ("is", "a")), line), (((), ()),))
        self.assertEqual(clash_cubes(("house", ("a", "b"), ("not", ("is", "a"))), line), ())

    def test_a_chain_over_two_choices(self):
        line = ("let", "x", when("a", num(1), TRUE), plus(num(0), ("if", when("b", X, TRUE), num(1), num(2))))
        self.assertEqual(clash_cubes(AB, line), ((("a", "b"), ()),))
        found = chain(AB, line, (("a", "b"), ()))
        self.assertIs(is_chain(AB, line, (("a", "b"), ()), found), True)
        self.assertIs(is_chain(AB, line, CUBE_A, found), False)

    def test_against_slow(self):
        several = 0
        for house, line, _ in cases(161, 40):
            found = clash_cubes(house, line)
            self.assertEqual(found, slow_clash_cubes(house, line), (house, line))
            several += len(found) > 1
        self.assertGreater(several, 10)

    def test_not_good_exactly_if_in_a_clash_cube(self):
        for house, line, _ in cases(162, 25):
            good = good_where(house, line)
            found = clash_cubes(house, line)
            for setting in slow_let(house):
                self.assertIs(slow_holds(good, setting), not any(lies_in(setting, cube) for cube in found))

    def test_seven_switches(self):
        line = num(0)
        for s in SEVEN[1]:
            line = plus(when(s, TRUE, num(1)), line)
        self.assertEqual(clash_cubes(SEVEN, line), tuple(((s,), ()) for s in SEVEN[1]))
        deep = TRUE
        for s in SEVEN[1]:
            deep = when(s, deep, num(1))
        self.assertEqual(clash_cubes(SEVEN, plus(num(1), deep)), ((SEVEN[1], ()),))
        self.assertIs(is_chain(SEVEN, plus(num(1), deep), (SEVEN[1], ()), chain(SEVEN, plus(num(1), deep), (SEVEN[1], ()))), True)


class TestChain(unittest.TestCase):
    def test_each_passes_its_judge(self):
        told = 0
        for house, line, _ in cases(163, 25):
            for cube in clash_cubes(house, line):
                found = chain(house, line, cube)
                self.assertTrue(slow_is_chain(slow_common(house, line, cube), found))
                self.assertIs(is_chain(house, line, cube, found), True)
                self.assertIs(is_chain(house, line, cube, found[1:]), False)
                self.assertIs(is_chain(house, line, cube, found[::-1]), len(found) == 1)
                told += 1
        self.assertGreater(told, 60)

    def test_bad_cubes(self):
        for house, line, _ in cases(164, 5):
            found = clash_cubes(house, line)
            for cube in slow_cubes(house[1]):
                if cube in found:
                    chain(house, line, cube)
                else:
                    with self.assertRaises(BadCube):
                        chain(house, line, cube)

    def test_a_wider_or_a_narrower_cube_is_none(self):
        for cube in (((), ()), (("a", "b"), ()), (("a",), ("b",)), ((), ("a",))):
            with self.assertRaises(BadCube):
                chain(AB, LINE, cube)


class TestIsChain(unittest.TestCase):
    def test_against_slow(self):
        """Short tuples of ties of small lines, at random or out of ways that lead on from term to term."""
        counts = [0, 0]
        for house, line, dice in cases(165, 6, 8):
            known = sorted(slow_ties(line))
            for cube in dice.sample(slow_cubes(house[1]), 3):
                common = slow_common(house, line, cube)
                if common is None:
                    with self.assertRaises(BadCube):
                        is_chain(house, line, cube, ())
                    continue
                rows = [tuple(dice.choice(known) for _ in range(dice.randint(0, 4))) for _ in range(20)] + walks(dice, common, 40)
                for thing in rows:
                    expected = slow_is_chain(common, thing)
                    self.assertIs(is_chain(house, line, cube, thing), expected)
                    counts[expected] += 1
        self.assertGreater(min(counts), 30)

    def test_longer_chains(self):
        # Over the number of its own a chain would come back to "number".
        line = ("then", num(1), plus(X, ("if", X, num(1), num(2))))
        found = chain(AB, line, ((), ()))
        self.assertEqual(found, (((2,), 1), ((2, 1), 0), ((2, 2, 1), 0), ((2, 2), 1)))
        self.assertIs(is_chain(AB, line, ((), ()), found), True)
        self.assertIs(is_chain(AB, line, ((), ()), (((2,), 0), ((2,), 0)) + found), False)
        around = (((2,), 2), ((2, 2), 2), ((2, 2, 2), 0)) + found
        self.assertIs(is_chain(AB, line, ((), ()), around), False)
        self.assertIs(is_chain(AB, line, ((), ()), found + found[-1:]), False)
        self.assertIs(is_chain(AB, line, ((), ()), found[:-1]), False)
        self.assertIs(is_chain(AB, line, ((), ()), ()), False)

    def test_any_value(self):
        found = chain(AB, LINE, CUBE_A)
        for thing in STRANGE:
            self.assertIs(is_chain(AB, LINE, CUBE_A, thing), False, thing)
        for wrong in spoiled(found):
            self.assertIs(is_chain(AB, LINE, CUBE_A, wrong), False, wrong)
        for wrong in ((((), True), ((1,), 2), ((1, 2), 0)), (((), 1), ((True,), 2), ((1, 2), 0)), (((), 1), ((1,), 2), ((1, 2), False)),
                      list(found), (((), 1, 2),) + found[1:], found + (None,)):
            self.assertIs(is_chain(AB, LINE, CUBE_A, wrong), False, wrong)

    def test_ties_that_do_not_stand_in_all(self):
        found = chain(AB, LINE, CUBE_A)
        self.assertIs(is_chain(AB, LINE, (("a", "b"), ()), found), True)
        self.assertIs(is_chain(AB, LINE, ((), ()), found), False)
        self.assertIs(is_chain(AB, LINE, (("b",), ()), found), False)
        self.assertIs(is_chain(("house", ("a", "b"), ("is", "a")), LINE, ((), ()), found), True)


class TestRefused(unittest.TestCase):
    def test_errors_in_their_order(self):
        assert_judged(self, clash_cubes, (AB, LINE), (0, (), BadHouse), (1, (), BadLine))
        assert_judged(self, chain, (AB, LINE, CUBE_A), (0, (), BadHouse), (1, (), BadLine), (2, ((), ()), BadCube))
        assert_judged(self, is_chain, (AB, LINE, CUBE_A, ()), (0, (), BadHouse), (1, (), BadLine), (2, (), BadCube))

    def test_wrong_values(self):
        for bad in STRANGE:
            for function, rest in ((clash_cubes, ()), (chain, (CUBE_A,)), (is_chain, (CUBE_A, ()))):
                with self.assertRaises(BadHouse):
                    function(bad, LINE, *rest)
                with self.assertRaises(BadLine):
                    function(AB, bad, *rest)
        wrong = list(STRANGE) + list(spoiled(CUBE_A)) + [
            (("a",), ("a",)), (("b", "a"), ()), (("c",), ()), (("a",), (), ()), (("a", "a"), ()), ("a", ())]
        for bad in wrong:
            if bad not in ((("a",), ()), ((), ())):
                with self.assertRaises(BadCube):
                    chain(AB, LINE, bad)
                with self.assertRaises(BadCube):
                    is_chain(AB, LINE, bad, ())

    def test_cubes_without_a_let_setting(self):
        for cube in (((), ("a", "b")),):
            with self.assertRaises(BadCube):
                is_chain(OR, LINE, cube, ())
            with self.assertRaises(BadCube):
                chain(OR, LINE, cube)
        with self.assertRaises(BadCube):
            is_chain(NONE, LINE, ((), ()), ())
        self.assertEqual(good_where(NONE, LINE), NO)
        self.assertEqual(good_where(AB, num(1)), YES)


if __name__ == "__main__":
    unittest.main()

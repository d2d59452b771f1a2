"""Point 110, and what point 115 says of it: keys."""

import itertools
import unittest

from manybuilds.askings import asking
from manybuilds.enough import enough_lots
from manybuilds.errors import BadHouse, BadLine, BadLot
from manybuilds.keying import is_key, key_clashes, least_keys, pair_against
from tests.helpers import (
    AB, HOUSES, NONE, ODD, ONE, OR, SEVEN, STRANGE, YES, assert_judged, decided, dice_of, num, plus, random_house, slow_let,
    spoiled, when)
from tests.test_askings import results, slow_trees
from tests.test_books import LINE, lines, show
from tests.test_enough import least_lots, slow_lots
from tests.test_ties import FALSE, TRUE, X


def alike_at(lot, one, other):
    return all((s in one) == (s in other) for s in lot)


def slow_pair(known, lot):
    """The first two settings, in order, that show unlike and are alike at the lot."""
    for one, other in itertools.combinations(known, 2):
        if known[one] != known[other] and alike_at(lot, one, other):
            return (one, other)
    return None


def slow_clashes(house, known):
    """The lots at all of whose switches, and no others, two settings that show unlike are unlike."""
    found = set()
    for one, other in itertools.combinations(known, 2):
        if known[one] != known[other]:
            found.add(tuple(s for s in house[1] if (s in one) != (s in other)))
    return [lot for lot in slow_lots(house) if lot in found]


def asked_in(tree):
    """The switches that are asked anywhere in an asking tree."""
    return set() if tree[0] == "tells" else {tree[1]} | asked_in(tree[2]) | asked_in(tree[3])


def few_let(dice, count, many):
    """A house of so many switches that lets at most so many settings."""
    switches = tuple(dice.sample("abcdefgh", count))
    rule = ("no",)
    for _ in range(many):
        just = YES
        for s in switches:
            just = ("and", just, dice.choice((("is", s), ("not", ("is", s)))))
        rule = ("or", rule, just)
    return ("house", switches, rule)


class TestByHand(unittest.TestCase):
    def test_example(self):
        self.assertEqual(key_clashes(OR, LINE), (("a",), ("b",)))
        self.assertEqual(least_keys(OR, LINE), (("a", "b"),))
        self.assertIs(is_key(OR, LINE, ("a", "b")), True)
        for lot in ((), ("a",), ("b",)):
            self.assertIs(is_key(OR, LINE, lot), False)
        self.assertIsNone(pair_against(OR, LINE, ("a", "b")))
        self.assertEqual(pair_against(OR, LINE, ("a",)), (("a",), ("a", "b")))
        self.assertEqual(pair_against(OR, LINE, ("b",)), (("b",), ("a", "b")))
        self.assertEqual(pair_against(OR, LINE, ()), (("b",), ("a",)))

    def test_all_show_alike(self):
        for house, line in ((AB, num(1)), (AB, when("a", num(1), num(1))), (AB, when("a", num(3), plus(num(1), num(2)))),
                            (AB, when("a", X, plus(TRUE, num(1)))), (NONE, LINE)):
            self.assertEqual(least_keys(house, line), ((),))
            self.assertEqual(key_clashes(house, line), ())
            for lot in slow_lots(house):
                self.assertIs(is_key(house, line, lot), True)
                self.assertIsNone(pair_against(house, line, lot))

    def test_what_is_shown_counts_not_how(self):
        # The builds are unlike at a, what they show is so at b alone.
        line = plus(when("a", plus(num(1), num(2)), num(3)), when("b", num(1), num(2)))
        self.assertEqual(enough_lots(AB, line), (("a", "b"),))
        self.assertEqual(least_keys(AB, line), (("b",),))
        self.assertEqual(key_clashes(AB, line), (("b",),))

    def test_events_and_ends_count(self):
        self.assertEqual(least_keys(AB, when("b", show(num(1)), num(1))), (("b",),))
        self.assertEqual(least_keys(AB, when("b", X, num(1))), (("b",),))
        self.assertEqual(least_keys(AB, when("b", TRUE, FALSE)), (("b",),))

    def test_the_rule_counts(self):
        line = when("a", num(1), num(2))
        house = ("house", ("b", "a"), ("split", "a", ("is", "b"), ("not", ("is", "b"))))
        self.assertEqual(least_keys(house, line), (("b",), ("a",)))
        self.assertEqual(key_clashes(house, line), (("b", "a"),))
        self.assertEqual(least_keys(("house", ("b", "a"), ("is", "a")), line), ((),))

    def test_the_first_pair(self):
        # The first setting that has an unlike one behind it at all, then the first such one.
        house = ("house", ("a", "b", "c"), YES)
        line = when("a", when("c", num(1), num(2)), num(0))
        self.assertEqual(pair_against(house, line, ()), ((), ("a",)))
        self.assertEqual(pair_against(house, line, ("a",)), (("a",), ("a", "c")))
        self.assertEqual(pair_against(house, line, ("c",)), ((), ("a",)))
        self.assertEqual(pair_against(house, line, ("b", "c")), ((), ("a",)))
        self.assertEqual(pair_against(house, line, ("a", "b")), (("a",), ("a", "c")))

    def test_order(self):
        house = ("house", ("c", "b", "a"), YES)
        line = plus(when("a", num(1), num(2)), when("c", num(10), num(20)))
        self.assertEqual(key_clashes(house, line), (("c",), ("a",)))
        self.assertEqual(least_keys(house, line), (("c", "a"),))
        # Just one of the three is on: any two of them tell.
        one_on = ("house", ("c", "b", "a"), ("split", "c", ("not", ("or", ("is", "b"), ("is", "a"))), (
            "split", "b", ("not", ("is", "a")), ("is", "a"))))
        line = when("c", num(1), when("b", num(2), num(3)))
        self.assertEqual(least_keys(one_on, line), (("c", "b"), ("c", "a"), ("b", "a")))
        self.assertEqual(key_clashes(one_on, line), (("c", "b"), ("c", "a"), ("b", "a")))

    def test_seven_switches(self):
        line = num(0)
        for at, s in enumerate(SEVEN[1][::2]):
            line = plus(line, when(s, show(num(at)), num(0)))
        self.assertEqual(least_keys(SEVEN, line), (SEVEN[1][::2],))
        self.assertEqual(key_clashes(SEVEN, line), tuple((s,) for s in SEVEN[1][::2]))
        self.assertEqual(pair_against(SEVEN, line, SEVEN[1][1:]), ((), ("g",)))


class TestByChance(unittest.TestCase):
    def test_against_slow(self):
        seen = {True: 0, False: 0}
        for house, line, _ in lines(1101, 12):
            known = results(house, line)
            keys = []
            for lot in slow_lots(house):
                pair = slow_pair(known, lot)
                self.assertEqual(pair_against(house, line, lot), pair, (house, line, lot))
                self.assertIs(is_key(house, line, lot), pair is None)
                keys += [lot] if pair is None else []
                seen[pair is None] += 1
            self.assertEqual(least_keys(house, line), least_lots(keys))
            self.assertEqual(key_clashes(house, line), least_lots(slow_clashes(house, known)))
        self.assertGreater(min(seen.values()), 150, seen)

    def test_mirror(self):
        dice = dice_of(1102)
        unlike = 0
        # Where few settings are let there is more than one key.
        few = tuple(few_let(dice, dice.randint(3, 5), dice.randint(2, 5)) for _ in range(15))
        for house in HOUSES + few + tuple(random_house(dice, dice.randint(3, 6)) for _ in range(10)):
            for _ in range(4):
                line = decided(house, {setting: num(dice.choice((0, 0, 0, 1, 2))) for setting in slow_let(house)})
                keys, clashes = least_keys(house, line), key_clashes(house, line)
                unlike += len(keys) > 1
                for lot in slow_lots(house):
                    self.assertIs(is_key(house, line, lot), all(set(lot) & set(clash) for clash in clashes))
                    self.assertIs(any(set(clash) <= set(lot) for clash in clashes), all(set(lot) & set(key) for key in keys))
        self.assertGreater(unlike, 5)

    def test_switches_of_asking_trees_are_keys(self):
        for house, line, _ in lines(1103, 5):
            known = results(house, line)
            if not known:
                continue
            trees = [asking(house, line)] + slow_trees(house[1], known, list(known), 2)[:20]
            for tree in trees:
                asked = asked_in(tree)
                self.assertIs(is_key(house, line, tuple(s for s in house[1] if s in asked)), True)

    def test_what_is_enough_for_the_builds_is_a_key(self):
        for house, line, _ in lines(1104, 8):
            for lot in enough_lots(house, line):
                self.assertIs(is_key(house, line, lot), True)
                self.assertTrue(any(set(key) <= set(lot) for key in least_keys(house, line)))


class TestWrongValues(unittest.TestCase):
    def test_lots(self):
        bads = [bad for bad in STRANGE if bad != ()] + [("a", "a"), ["a"], ("b", "a"), ("c",), ("a", None), ("a", ("b",))]
        for function in (is_key, pair_against):
            for bad in bads + list(spoiled(("a", "b"))):
                assert_judged(self, function, [OR, LINE, ("a",)], (0, "house", BadHouse), (1, X + X, BadLine), (2, bad, BadLot))
            assert_judged(self, function, [ODD, num(1), ("a", "c")], (2, ("c", "a"), BadLot))

    def test_lines(self):
        for bad in STRANGE + (when("c", num(1), num(2)), list(LINE)) + tuple(spoiled(show(num(1)))):
            for function in (least_keys, key_clashes):
                assert_judged(self, function, [OR, LINE], (0, OR[:2], BadHouse), (1, bad, BadLine))
            assert_judged(self, is_key, [ONE, num(1), ()], (0, [ONE], BadHouse), (1, bad, BadLine), (2, ("b",), BadLot))


if __name__ == "__main__":
    unittest.main()

"""Points 82, 83 and 85: which builds tell all, and what they would miss."""

import itertools
import math
import unittest
from fractions import Fraction

from manybuilds.errors import BadChosen, BadCosts, BadHouse, BadLots, BadNumbers, BadSetting, NotTold
from manybuilds.ghosts import fewest_chosen, foretold, ghost, is_ghost, told_of, tells
from manybuilds.marking import lots_of, tallies
from manybuilds.weighing import weights
from tests.helpers import (
    AB, HOUSES, NONE, OR, SEVEN, STRANGE, assert_judged, dice_of, random_house, slow_let, spoiled)
from tests.slow_sums import fraction_of, pair_of, random_lots, random_table, ruled, slow_counts, solved
from tests.test_books import LINE, lines
from tests.test_marking import BAD_LOTS, MEASURES
from tests.test_weighing import A_AND_B, BAD_TABLES

# Values that are no chosen settings of the house OR.
BAD_CHOSEN = tuple(thing for thing in STRANGE if thing != ()) + (
    ("a",), [("a",)], (("a",), ("a",)), (("a",), ()), (("b", "a"),), (("c",),), (("a",), ["b"]), (("a",), "b"), (("a",), None))


def cases(seed, many, most=4):
    """Houses with lots and some chosen settings."""
    dice = dice_of(seed)
    for house in HOUSES + tuple(random_house(dice, dice.randint(1, most)) for _ in range(15)):
        let = slow_let(house)
        for _ in range(many):
            yield house, random_lots(dice, house), tuple(dice.sample(let, dice.randint(0, len(let)))), dice


def slow_told_of(house, lots, chosen, setting):
    """The fractions of the chosen settings, found for their rows of marks."""
    counts = dict(zip(slow_let(house), slow_counts(house, lots)))
    found = solved([counts[other] for other in chosen], counts[setting])
    return None if found is None else tuple(map(pair_of, found))


def slow_tells(house, lots, chosen):
    return all(slow_told_of(house, lots, chosen, setting) is not None for setting in slow_let(house))


class TestToldOf(unittest.TestCase):
    def test_by_hand(self):
        self.assertEqual(told_of(AB, A_AND_B, ((), ("a",), ("b",)), ("a", "b")), ((-1, 1), (1, 1), (1, 1)))
        self.assertIsNone(told_of(AB, A_AND_B, ((), ("a",)), ("a", "b")))
        self.assertIsNone(told_of(AB, (("a", "b"),), ((), ("a",), ("b",)), ("a", "b")))
        self.assertEqual(told_of(AB, A_AND_B, (("b",), ()), ()), ((0, 1), (1, 1)))
        # One of the chosen that is told by those ahead of it has none.
        chosen = (("a", "b"), ("a",), ("b",), ())
        self.assertEqual(told_of(AB, A_AND_B, chosen, ()), ((-1, 1), (1, 1), (1, 1), (0, 1)))
        # With no lots all is told; with () any one setting tells all.
        self.assertEqual(told_of(AB, (), (), ("a",)), ())
        self.assertEqual(told_of(AB, (), (("a",),), ("a",)), ((0, 1),))
        self.assertEqual(told_of(AB, ((),), (("b",), ("a",)), ("a",)), ((1, 1), (0, 1)))
        self.assertIsNone(told_of(AB, ((),), (), ("a",)))

    def test_against_slow(self):
        seen = {True: 0, False: 0}
        for house, lots, chosen, dice in cases(821, 15):
            for setting in dice.sample(slow_let(house), min(3, len(slow_let(house)))):
                found = told_of(house, lots, chosen, setting)
                self.assertEqual(found, slow_told_of(house, lots, chosen, setting), (house, lots, chosen, setting))
                seen[found is None] += 1
        self.assertGreater(min(seen.values()), 100, seen)

    def test_each_table_within_is_so(self):
        for house, lots, chosen, dice in cases(822, 6):
            table = dict(zip(slow_let(house), random_table(dice, house, lots)))
            if weights(house, lots, tuple(table.values())) is None:
                continue
            for setting in table:
                found = told_of(house, lots, chosen, setting)
                if found is not None:
                    told = sum(fraction_of(pair) * table[other] for pair, other in zip(found, chosen))
                    self.assertEqual(told, table[setting])

    def test_wrong_values(self):
        for bad in BAD_CHOSEN:
            assert_judged(self, told_of, [OR, A_AND_B, (("a",),), ("b",)], (0, 1, BadHouse), (1, None, BadLots),
                          (2, bad, BadChosen), (3, (), BadSetting))
        for bad in STRANGE + (("b", "a"), ["a"], ("c",)):
            assert_judged(self, told_of, [OR, A_AND_B, (("a",),), ("b",)], (2, [], BadChosen), (3, bad, BadSetting))
        for bad in BAD_LOTS:
            assert_judged(self, told_of, [OR, A_AND_B, (("a",),), ("b",)], (1, bad, BadLots))


class TestTells(unittest.TestCase):
    def test_by_hand(self):
        self.assertIs(tells(AB, A_AND_B, ((), ("a",), ("b",))), True)
        self.assertIs(tells(AB, A_AND_B, ((), ("a",))), False)
        self.assertIs(tells(OR, A_AND_B, (("b",), ("a",))), False)
        self.assertIs(tells(OR, A_AND_B, (("a", "b"), ("b",), ("a",))), True)
        self.assertIs(tells(AB, (), ()), True)
        self.assertIs(tells(AB, ((),), ()), False)
        self.assertIs(tells(AB, ((),), (("a", "b"),)), True)
        self.assertIs(tells(NONE, A_AND_B, ()), True)

    def test_exactly_if_there_is_no_ghost(self):
        seen = {True: 0, False: 0}
        for house, lots, chosen, _ in cases(823, 15):
            found = tells(house, lots, chosen)
            self.assertIs(found, slow_tells(house, lots, chosen))
            self.assertIs(ghost(house, lots, chosen) is None, found)
            seen[found] += 1
        self.assertGreater(min(seen.values()), 50, seen)

    def test_wrong_values(self):
        for function in (tells, ghost):
            for bad in BAD_CHOSEN:
                assert_judged(self, function, [OR, A_AND_B, (("a",),)], (0, 1, BadHouse), (1, None, BadLots), (2, bad, BadChosen))
            for bad in BAD_LOTS:
                assert_judged(self, function, [OR, A_AND_B, (("a",),)], (0, (), BadHouse), (1, bad, BadLots), (2, 0, BadChosen))


class TestGhosts(unittest.TestCase):
    def test_by_hand(self):
        # What () and a cannot tell: b is wrong, and with it a and b.
        self.assertEqual(ghost(AB, A_AND_B, ((), ("a",))), (0, 1, 0, 1))
        self.assertEqual(ghost(AB, A_AND_B, ()), (1, 0, 0, -1))
        self.assertEqual(ghost(AB, A_AND_B, (("a", "b"),)), (1, 0, 1, 0))
        self.assertIsNone(ghost(AB, A_AND_B, ((), ("a",), ("b",))))
        self.assertEqual(ghost(AB, ((),), ()), (1, 1, 1, 1))
        self.assertIsNone(ghost(AB, (), ()))
        self.assertIsNone(ghost(NONE, A_AND_B, ()))
        self.assertEqual(ghost(AB, (("a", "b"),), (("a", "b"), ("a",), ())), (0, 1, 0, 0))

    def test_is_ghost(self):
        for thing in ((0, 1, 0, 1), (0, -7, 0, -7)):
            self.assertIs(is_ghost(AB, A_AND_B, ((), ("a",)), thing), True)
        for thing in ((0, 0, 0, 0), (0, 1, 0, 2), (1, 1, 0, 0), (0, 1, 1, 2), (0, 1, 0), [0, 1, 0, 1], (0, True, 0, 1), None):
            self.assertIs(is_ghost(AB, A_AND_B, ((), ("a",)), thing), False, thing)
        self.assertIs(is_ghost(AB, (), (), (1, 0, 0, 0)), False)
        self.assertIs(is_ghost(NONE, A_AND_B, (), ()), False)
        for wrong in BAD_TABLES + tuple(spoiled((1, 1, 2))):
            if wrong != (3, 1, 2):
                self.assertIs(is_ghost(OR, A_AND_B, (("a",),), wrong), False, wrong)
        self.assertIs(is_ghost(OR, A_AND_B, (("a",),), (1, 0, 1)), True)

    def test_against_what_is_told_of_it(self):
        many = 0
        for house, lots, chosen, _ in cases(824, 15):
            found = ghost(house, lots, chosen)
            if found is None:
                continue
            many += 1
            let = slow_let(house)
            self.assertIs(is_ghost(house, lots, chosen, found), True)
            self.assertEqual(math.gcd(*found), 1)
            longer = list(chosen)
            for setting in let:
                if slow_told_of(house, lots, longer, setting) is None:
                    longer.append(setting)
            known = dict(zip(let, found))
            self.assertGreater(known[longer[len(chosen)]], 0)
            self.assertFalse(any(known[setting] for at, setting in enumerate(longer) if at != len(chosen)))
        self.assertGreater(many, 100)

    def test_is_ghost_against_slow(self):
        seen = {True: 0, False: 0}
        for house, lots, chosen, dice in cases(826, 10, 3):
            chosen = chosen[:2]
            for thing in (random_table(dice, house, lots, 1), ghost(house, lots, chosen) or ()):
                known = dict(zip(slow_let(house), thing))
                expected = len(thing) == len(slow_let(house)) and any(thing) and weights(house, lots, thing) is not None
                expected = expected and not any(known[setting] for setting in chosen)
                self.assertIs(is_ghost(house, lots, chosen, thing), expected)
                seen[expected] += 1
        self.assertGreater(min(seen.values()), 50, seen)

    def test_wrong_values(self):
        for bad in BAD_CHOSEN:
            assert_judged(self, is_ghost, [OR, A_AND_B, (("a",),), None], (0, 1, BadHouse), (1, None, BadLots), (2, bad, BadChosen))


class TestFewestChosen(unittest.TestCase):
    def test_by_hand(self):
        self.assertEqual(fewest_chosen(AB, A_AND_B, (0, 0, 0, 0)), ((), ("b",), ("a",)))
        self.assertEqual(fewest_chosen(AB, A_AND_B, (5, 0, 0, 0)), (("b",), ("a",), ("a", "b")))
        self.assertEqual(fewest_chosen(AB, A_AND_B, (5, 3, 4, 2)), (("a", "b"), ("b",), ("a",)))
        self.assertEqual(fewest_chosen(AB, (), (5, 3, 4, 2)), ())
        self.assertEqual(fewest_chosen(AB, ((),), (5, 3, 4, 2)), (("a", "b"),))
        self.assertEqual(fewest_chosen(AB, ((),), (5, 2, 4, 2)), (("b",),))
        self.assertEqual(fewest_chosen(AB, (("a", "b"),), (1, 0, 1, 0)), (("b",), ("a", "b"), (), ("a",)))
        self.assertEqual(fewest_chosen(NONE, A_AND_B, ()), ())

    def test_fewest_and_cheapest(self):
        for house, lots, _, dice in cases(827, 4, 3):
            let = slow_let(house)
            if len(let) > 6:
                continue
            costs = tuple(dice.choice((0, 1, 1, 2, 5)) for _ in let)
            known = dict(zip(let, costs))
            found = fewest_chosen(house, lots, costs)
            self.assertIs(tells(house, lots, found), True)
            self.assertEqual([known[setting] for setting in found], sorted(known[setting] for setting in found))
            sizes = set()
            for size in range(len(let) + 1):
                for some in itertools.combinations(let, size):
                    if slow_tells(house, lots, some):
                        self.assertGreaterEqual(size, len(found))
                        self.assertGreaterEqual(sum(known[setting] for setting in some), sum(known[setting] for setting in found))
                        if not any(slow_tells(house, lots, some[:at] + some[at + 1:]) for at in range(size)):
                            sizes.add(size)
            self.assertEqual(sizes, {len(found)})

    def test_seven_switches(self):
        lots = tuple((s,) for s in SEVEN[1])
        found = fewest_chosen(SEVEN, lots, (0,) * 128)
        self.assertEqual(len(found), 8)
        self.assertEqual(found[:3], ((), ("a",), ("b",)))

    def test_wrong_values(self):
        for bad in BAD_TABLES + ((0, 0, -1), (-1, 1, 1)):
            assert_judged(self, fewest_chosen, [OR, A_AND_B, (3, 1, 2)], (0, "house", BadHouse), (1, [()], BadLots),
                          (2, bad, BadCosts))


class TestForetold(unittest.TestCase):
    def test_by_hand(self):
        self.assertEqual(foretold(AB, A_AND_B, ((), ("a",), ("b",)), (1, 5, 3)), ((1, 1), (3, 1), (5, 1), (7, 1)))
        # Told by itself, but not the number that it has.
        chosen = ((), ("a",), ("b",), ("a", "b"))
        self.assertEqual(foretold(AB, A_AND_B, chosen, (1, 5, 3, 7)), ((1, 1), (3, 1), (5, 1), (7, 1)))
        self.assertIsNone(foretold(AB, A_AND_B, chosen, (1, 5, 3, 8)))
        self.assertIsNone(foretold(AB, (), (("a",),), (2,)))
        self.assertEqual(foretold(AB, (), (("a",),), (0,)), ((0, 1),) * 4)
        self.assertEqual(foretold(AB, ((),), (("b",),), (-6,)), ((-6, 1),) * 4)
        self.assertEqual(foretold(NONE, A_AND_B, (), ()), ())

    def test_fractions(self):
        house = ("house", ("a", "b", "c", "d"), ("or", ("split", "a", ("split", "b", (
            "and", ("not", ("is", "c")), ("not", ("is", "d"))), ("split", "c", ("not", ("is", "d")), ("no",))), (
                "split", "b", ("and", ("is", "c"), ("not", ("is", "d"))), ("no",))), (
                    "and", ("and", ("not", ("is", "a")), ("not", ("is", "b"))), ("not", ("is", "c")))))
        let = slow_let(house)
        self.assertEqual(let, [(), ("d",), ("b", "c"), ("a", "c"), ("a", "b")])
        more = ("house", house[1], ("or", house[2], ("and", ("is", "a"), ("not", ("or", ("is", "b"), ("or", ("is", "c"), ("is", "d")))))))
        chosen = ((), ("d",), ("b", "c"), ("a", "c"), ("a", "b"))
        self.assertEqual(foretold(more, (("a",), ("b",), ("c",), ("d",)), chosen, (0, 4, 1, 0, 0))[3], (-1, 2))
        self.assertEqual(told_of(more, (("a",), ("b",), ("c",), ("d",)), chosen, ("a",)), ((1, 2), (0, 1), (-1, 2), (1, 2), (1, 2)))

    def test_not_told(self):
        for chosen, setting in (((), ()), (((),), ("b",)), (((), ("b",)), ("a",)), ((("a",), ("b",)), ())):
            with self.assertRaises(NotTold) as caught:
                foretold(AB, A_AND_B, chosen, (1,) * len(chosen))
            self.assertEqual(caught.exception.setting, setting)
        # Ahead of numbers that no table has.
        with self.assertRaises(NotTold):
            foretold(AB, (("a",),), (("b",), ()), (1, 2))

    def test_whole_tallies_of_few_builds(self):
        many = 0
        for house, line, dice in lines(828, 8):
            for other in (house, ruled(dice, house[1])):
                lots = lots_of(other, line)
                if len(lots) > 20:
                    continue
                chosen = fewest_chosen(other, lots, tuple(dice.randint(0, 3) for _ in slow_let(other)))
                for measure in dice.sample(MEASURES, 3):
                    table = tallies(other, line, measure)
                    known = dict(zip(slow_let(other), table))
                    told = foretold(other, lots, chosen, tuple(known[setting] for setting in chosen))
                    self.assertEqual(told, tuple((number, 1) for number in table))
                    many += len(chosen) < len(table)
        self.assertGreater(many, 100)

    def test_against_slow(self):
        seen = {"none": 0, "told": 0, "untold": 0}
        for house, lots, chosen, dice in cases(829, 15, 3):
            let = slow_let(house)
            table = dict(zip(let, random_table(dice, house, lots)))
            numbers = tuple(table[setting] for setting in chosen)
            rows = [slow_told_of(house, lots, chosen, setting) for setting in let]
            if None in rows:
                with self.assertRaises(NotTold) as caught:
                    foretold(house, lots, chosen, numbers)
                self.assertEqual(caught.exception.setting, let[rows.index(None)])
                seen["untold"] += 1
                continue
            sums = [sum((fraction_of(pair) * number for pair, number in zip(row, numbers)), Fraction(0)) for row in rows]
            told = tuple(map(pair_of, sums))
            if any(sums[let.index(setting)] != table[setting] for setting in chosen):
                told = None
            self.assertEqual(foretold(house, lots, chosen, numbers), told)
            seen["none" if told is None else "told"] += 1
        self.assertGreater(min(seen.values()), 10, seen)

    def test_wrong_values(self):
        chosen = (("b",), ("a",), ("a", "b"))
        for bad in BAD_TABLES:
            if bad == (3, 1, 2):
                continue
            assert_judged(self, foretold, [OR, A_AND_B, chosen, (3, 1, 2)], (0, "house", BadHouse), (1, [()], BadLots),
                          (2, [], BadChosen), (3, bad, BadNumbers))
        for bad in BAD_CHOSEN:
            assert_judged(self, foretold, [OR, A_AND_B, chosen, (3, 1, 2)], (1, 0, BadLots), (2, bad, BadChosen))
        # Numbers that are none ahead of what is not told.
        with self.assertRaises(BadNumbers):
            foretold(OR, A_AND_B, (), (1,))
        with self.assertRaises(BadNumbers):
            foretold(OR, A_AND_B, chosen, (3, 1))

    def test_example(self):
        """In the house and with the line of point 76 all three builds must be run, as all act."""
        self.assertIs(tells(OR, lots_of(OR, LINE), (("b",), ("a",))), False)
        self.assertEqual(foretold(OR, lots_of(OR, LINE), (("b",), ("a",), ("a", "b")), (3, 1, 2)), ((3, 1), (1, 1), (2, 1)))


if __name__ == "__main__":
    unittest.main()

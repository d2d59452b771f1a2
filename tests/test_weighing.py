"""Points 80, 81 and 86, and what point 87 says of them: weights, balances, and what acts."""

import itertools
import math
import unittest

from manybuilds.errors import BadHouse, BadLots, BadTable, TooMany
from manybuilds.marking import lots_of, marks, tallies
from manybuilds.weighing import acting, balance, is_balance, weights
from tests.helpers import (
    AB, HOUSES, NONE, ODD, ONE, OR, SEVEN, STRANGE, YES, assert_judged, dice_of, random_house, slow_let, spoiled)
from tests.slow_sums import fraction_of, pair_of, random_lots, random_table, ruled, slow_counts, solved
from tests.test_books import LINE, lines
from tests.test_marking import BAD_LOTS

A_AND_B = (("a",), ("b",))
FIVE = ("house", ("a", "b", "c", "d", "e"), YES)
BAD_TABLES = tuple(thing for thing in STRANGE) + (
    (1, 2), (1, 2, 3, 4), [3, 1, 2], (3, 1, True), (3, 1, "2"), (3, None, 2), ((3,), 1, 2), (3, (1, 1), 2))


def tables(seed, many, most=4):
    dice = dice_of(seed)
    for house in HOUSES + tuple(random_house(dice, dice.randint(1, most)) for _ in range(15)):
        for _ in range(many):
            lots = random_lots(dice, house)
            yield house, lots, random_table(dice, house, lots), dice


def slow_weights(house, lots, table):
    counts = slow_counts(house, lots)
    columns = [[row[at] for row in counts] for at in range(len(counts[0]))] if counts else [[] for _ in marks(house, lots)]
    found = solved(columns, table)
    return None if found is None else tuple(map(pair_of, found))


def slow_balance(house, lots, table):
    """The balance at the first setting at which the table is not what those that are taken ahead of it tell."""
    counts = slow_counts(house, lots)
    taken = []
    for place, row in enumerate(counts):
        found = solved([counts[other] for other in taken], row)
        if found is None:
            taken.append(place)
        elif sum(fraction * table[other] for fraction, other in zip(found, taken)) != table[place]:
            often = math.lcm(1, *(fraction.denominator for fraction in found))
            told = [0] * len(counts)
            told[place] = often
            for fraction, other in zip(found, taken):
                told[other] = int(-fraction * often)
            return tuple(told)
    return None


class TestWeights(unittest.TestCase):
    def test_example(self):
        self.assertEqual(weights(OR, A_AND_B, (3, 1, 2)), ((2, 1), (-1, 1), (1, 1)))
        self.assertIsNone(weights(OR, (("a",),), (3, 1, 2)))

    def test_by_hand(self):
        self.assertEqual(weights(AB, (("a", "b"),), (1, 3, 0, 10)), ((1, 1), (-1, 1), (2, 1), (8, 1)))
        self.assertIsNone(weights(AB, A_AND_B, (1, 3, 0, 10)))
        self.assertEqual(weights(AB, A_AND_B, (1, 3, 0, 2)), ((1, 1), (-1, 1), (2, 1)))
        # No lots: no table but 0 is within; the lot (): all numbers are alike.
        self.assertEqual(weights(AB, (), (0, 0, 0, 0)), ())
        self.assertIsNone(weights(AB, (), (0, 0, 1, 0)))
        self.assertEqual(weights(AB, ((),), (-4, -4, -4, -4)), ((-4, 1),))
        self.assertIsNone(weights(AB, ((),), (-4, -4, -4, 4)))

    def test_fractions(self):
        # Of three switches always two are on.
        house = ("house", ("a", "b", "c"), ("split", "a", ("split", "b", ("not", ("is", "c")), ("is", "c")), (
            "and", ("is", "b"), ("is", "c"))))
        self.assertEqual(weights(house, (("a",), ("b",), ("c",)), (1, 0, 0)), ((1, 1), (-1, 1), (0, 1), (0, 1)))
        pairs = (("a", "b"), ("a", "c"), ("b", "c"))
        self.assertEqual(weights(house, pairs, (1, 0, 0)), ((1, 1), (-1, 1), (0, 1), (0, 1), (0, 1), (0, 1), (0, 1)))
        # Four settings, each with two of four on, in a ring, and one with all.
        ring = ("house", ("a", "b", "c"), ("or", ("and", ("is", "a"), ("is", "b")), (
            "split", "c", ("or", ("is", "a"), ("is", "b")), ("no",))))
        self.assertEqual(slow_let(ring), [("b", "c"), ("a", "c"), ("a", "b"), ("a", "b", "c")])
        self.assertEqual(weights(ring, (("a",), ("b",), ("c",)), (1, 1, 1, 0)), ((3, 1), (-1, 1), (-1, 1), (-1, 1)))

    def test_spare_marks(self):
        house = ("house", ("a", "b"), ("is", "a"))
        self.assertEqual(weights(house, (("a", "b"),), (5, 7)), ((5, 1), (0, 1), (2, 1), (0, 1)))
        none = ("house", ("a", "b"), ("not", ("is", "a")))
        self.assertEqual(weights(none, (("a", "b"),), (5, 7)), ((5, 1), (0, 1), (2, 1), (0, 1)))
        self.assertEqual(weights(NONE, A_AND_B, ()), ((0, 1),) * 3)
        self.assertEqual(weights(NONE, (), ()), ())

    def test_large_numbers(self):
        table = (10 ** 8, -10 ** 8, 3, 123456789)
        self.assertEqual(weights(AB, (("a", "b"),), table), (
            (10 ** 8, 1), (3 - 10 ** 8, 1), (-2 * 10 ** 8, 1), (123456789 - 3 + 2 * 10 ** 8, 1)))

    def test_against_slow(self):
        seen = {True: 0, False: 0}
        for house, lots, table, _ in tables(811, 12):
            found = weights(house, lots, table)
            self.assertEqual(found, slow_weights(house, lots, table), (house, lots, table))
            seen[found is None] += 1
            if found is not None:
                for row, number in zip(slow_counts(house, lots), table):
                    self.assertEqual(sum(one * fraction_of(pair) for one, pair in zip(row, found)), number)
                for above, below in found:
                    self.assertTrue(below >= 1 and math.gcd(above, below) == 1)
        self.assertGreater(min(seen.values()), 30, seen)

    def test_weights_in_halves(self):
        """A table that no whole weights sum up to: each two of three switches are on, or none."""
        house = ("house", ("a", "b", "c"), ("split", "a", ("split", "b", ("not", ("is", "c")), ("is", "c")), (
            "split", "b", ("is", "c"), ("not", ("is", "c")))))
        self.assertEqual(slow_let(house), [(), ("b", "c"), ("a", "c"), ("a", "b")])
        self.assertEqual(weights(house, (("a",), ("b",), ("c",)), (0, 1, 0, 0)), ((0, 1), (-1, 2), (1, 2), (1, 2)))

    def test_seven_switches(self):
        dice = dice_of(812)
        for rule in (YES, ("or", ("is", "a"), ("split", "b", ("is", "c"), ("or", ("is", "d"), ("not", ("is", "e")))))):
            house = ("house", SEVEN[1], rule)
            many = len(slow_let(house))
            table = tuple(dice.randint(-10 ** 9 + 1, 10 ** 9 - 1) for _ in range(many))
            found = weights(house, (SEVEN[1],), table)
            for row, number in zip(slow_counts(house, (SEVEN[1],)), table):
                self.assertEqual(sum(above for one, (above, _) in zip(row, found) if one), number)
            twenty = tuple(itertools.combinations(SEVEN[1], 3))[:20]
            told = balance(house, twenty, table)
            self.assertIs(is_balance(house, twenty, told), True)
            self.assertNotEqual(sum(one * other for one, other in zip(told, table)), 0)
            self.assertIsNone(weights(house, twenty, table))

    def test_wrong_values(self):
        for function in (weights, balance):
            for bad in BAD_TABLES:
                assert_judged(self, function, [OR, A_AND_B, (3, 1, 2)], (0, "house", BadHouse), (1, [()], BadLots),
                              (2, bad, BadTable))
            for bad in BAD_LOTS:
                assert_judged(self, function, [OR, A_AND_B, (3, 1, 2)], (0, None, BadHouse), (1, bad, BadLots), (2, (), BadTable))
            assert_judged(self, function, [NONE, A_AND_B, ()], (2, (1,), BadTable))


class TestBalance(unittest.TestCase):
    def test_example(self):
        self.assertEqual(balance(OR, (("a",),), (3, 1, 2)), (0, -1, 1))
        self.assertIsNone(balance(OR, A_AND_B, (3, 1, 2)))

    def test_by_hand(self):
        self.assertEqual(balance(AB, A_AND_B, (1, 3, 0, 10)), (1, -1, -1, 1))
        # No lots: each number must be 0.
        self.assertEqual(balance(AB, (), (0, 0, -5, 1)), (0, 0, 1, 0))
        self.assertIsNone(balance(AB, (), (0, 0, 0, 0)))
        self.assertEqual(balance(AB, ((),), (2, 2, 2, 3)), (-1, 0, 0, 1))
        self.assertIsNone(balance(NONE, A_AND_B, ()))
        house = ("house", ("a", "b", "c"), ("or", ("is", "a"), ("is", "b")))
        self.assertEqual(balance(house, (("a",), ("b",), ("c",)), (0, 0, 0, 0, 0, 1)), (1, -1, 0, 0, -1, 1))

    def test_against_slow(self):
        found = 0
        for house, lots, table, _ in tables(813, 12):
            told = balance(house, lots, table)
            self.assertEqual(told, slow_balance(house, lots, table), (house, lots, table))
            # Either the one or the other.
            self.assertEqual(told is None, weights(house, lots, table) is not None)
            if told is not None:
                found += 1
                self.assertIs(is_balance(house, lots, told), True)
                self.assertNotEqual(sum(one * other for one, other in zip(told, table)), 0)
                self.assertEqual(math.gcd(*told), 1)
        self.assertGreater(found, 30)

    def test_no_balance_is_unlike_0_with_a_table_within(self):
        for house, lots, table, dice in tables(814, 3, 3):
            if weights(house, lots, table) is None:
                continue
            for _ in range(3):
                told = balance(house, lots, tuple(number + dice.randint(-3, 3) for number in table))
                if told is not None:
                    self.assertEqual(sum(one * other for one, other in zip(told, table)), 0)


class TestIsBalance(unittest.TestCase):
    def test_by_hand(self):
        for thing in ((0, -1, 1), (0, 0, 0), (0, 5, -5)):
            self.assertIs(is_balance(OR, (("a",),), thing), True)
        for thing in ((0, 0, 1), (1, -1, 0), (1, 1, -2), (0, -1, 1, 0), (0, -1), (), [0, -1, 1], (0, -1, True)):
            self.assertIs(is_balance(OR, (("a",),), thing), False, thing)
        self.assertIs(is_balance(OR, (), (5, 7, -9)), True)
        self.assertIs(is_balance(NONE, A_AND_B, ()), True)
        self.assertIs(is_balance(NONE, A_AND_B, (0,)), False)

    def test_against_slow(self):
        dice = dice_of(815)
        seen = {True: 0, False: 0}
        for house in HOUSES:
            for _ in range(40):
                lots = random_lots(dice, house, 2)
                counts = slow_counts(house, lots)
                thing = tuple(dice.choice((0, 0, -1, 1)) for _ in counts)
                columns = [[row[at] for row in counts] for at in range(len(counts[0]))] if counts else []
                expected = all(sum(one * other for one, other in zip(column, thing)) == 0 for column in columns)
                self.assertIs(is_balance(house, lots, thing), expected)
                seen[expected] += 1
        self.assertGreater(min(seen.values()), 50)

    def test_any_value(self):
        for wrong in BAD_TABLES + tuple(spoiled((0, -1, 1))):
            self.assertIs(is_balance(OR, A_AND_B, wrong), False, wrong)
        assert_judged(self, is_balance, [OR, A_AND_B, None], (0, "house", BadHouse), (1, (("c",),), BadLots))


class TestActing(unittest.TestCase):
    def test_by_hand(self):
        self.assertEqual(acting(OR, (3, 1, 2)), (("a",), ("b",)))
        self.assertEqual(acting(AB, (0, 0, 0, 0)), ())
        self.assertEqual(acting(AB, (5, 5, 5, 5)), ((),))
        self.assertEqual(acting(AB, (5, 6, 5, 6)), (("b",),))
        self.assertEqual(acting(AB, (5, 6, 4, 5)), (("a",), ("b",)))
        self.assertEqual(acting(AB, (0, 0, 0, 1)), (("a", "b"),))
        self.assertEqual(acting(NONE, ()), ())
        self.assertEqual(acting(ODD, (0, 0, 0, 0, 0)), ())
        self.assertEqual(acting(("house", ("c", "b", "a"), YES), (0, 1, 1, 2, 1, 2, 3, 4)), (("a",), ("c", "b")))
        # What the rule makes one with another does not act for sure.
        self.assertEqual(acting(("house", ("a", "b"), ("split", "a", ("is", "b"), ("not", ("is", "b")))), (0, 1)), ((),))

    def test_against_slow(self):
        for house, lots, table, _ in tables(816, 5):
            acts = []
            for size in range(len(house[1]) + 1):
                for lot in itertools.combinations(house[1], size):
                    others = tuple(tuple(t for t in house[1] if t != s) for s in lot)
                    if slow_weights(house, others, table) is None:
                        acts.append(lot)
            # What lies in a lot that acts acts.
            for lot in acts:
                for size in range(len(lot)):
                    self.assertTrue(all(inner in acts for inner in itertools.combinations(lot, size)))
            widest = tuple(lot for lot in acts if not any(set(lot) < set(other) for other in acts))
            self.assertEqual(acting(house, table), widest, (house, table))

    def test_what_acts_in_a_tally_lies_in_one_of_lots_of(self):
        dice = dice_of(817)
        for house, line, _ in lines(818, 4):
            for other in (house, ruled(dice, house[1])):
                for measure in (("sum",), ("shown",), ("times", "yes")):
                    lots = lots_of(other, line)
                    for lot in acting(other, tallies(other, line, measure)):
                        self.assertTrue(any(set(lot) <= set(wide) for wide in lots))

    def test_too_many(self):
        self.assertEqual(acting(FIVE, (0,) * 31 + (1,)), (FIVE[1],))
        six = ("house", ("a", "b", "c", "d", "e", "f"), ("is", "a"))
        with self.assertRaises(TooMany) as caught:
            acting(six, (0,) * 32)
        self.assertEqual(caught.exception.most, 5)
        # Behind all other errors.
        with self.assertRaises(BadTable):
            acting(six, (0,) * 31)
        with self.assertRaises(TooMany):
            acting(("house", six[1], ("no",)), ())

    def test_wrong_values(self):
        for bad in BAD_TABLES:
            assert_judged(self, acting, [OR, (3, 1, 2)], (0, OR[1], BadHouse), (1, bad, BadTable))
        assert_judged(self, acting, [ONE, (3, 1)], (1, (3,), BadTable))


if __name__ == "__main__":
    unittest.main()

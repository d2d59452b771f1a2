"""Points 80 and 84, and what point 87 says of them: marks, tallies, and the lots on which shows hang."""

import itertools
import unittest

from manybuilds.books import book
from manybuilds.errors import BadHouse, BadLine, BadLots, BadMeasure
from manybuilds.marking import lots_of, marks, tallies
from manybuilds.running import run
from manybuilds.weighing import weights
from tests.helpers import (
    AB, HOUSES, NO, NONE, ONE, OR, SEVEN, STRANGE, YES, assert_judged, dice_of, num, plus, random_house, slow_build,
    slow_let, slow_paths, spoiled, when)
from tests.slow_sums import random_lots, ruled, slow_marks
from tests.test_books import LINE, lines, show
from tests.test_ties import FALSE, TRUE, X

MEASURES = (("shown",), ("sum",), ("times", 1), ("times", 2), ("times", 0), ("times", "yes"), ("times", "no"))
# Values that are no lots in a house of the switches a and b.
BAD_LOTS = tuple(thing for thing in STRANGE if thing not in ((), ((),))) + (
    ("a",), (("b", "a"),), (("a", "a"),), (("c",),), (("a",), ("a",)), (("a",), ["b"]), [("a",)], ((), ()), (("a",), "b"),
    (("a",), None), (("a", 1),))


def slow_tally(events, measure):
    if measure == ("shown",):
        return len(events)
    if measure == ("sum",):
        return sum(event for event in events if not isinstance(event, str))
    return sum(1 for event in events if event == measure[1])


class TestMarks(unittest.TestCase):
    def test_example(self):
        self.assertEqual(marks(OR, (("a",), ("b",))), ((), ("a",), ("b",)))

    def test_by_hand(self):
        self.assertEqual(marks(AB, ()), ())
        self.assertEqual(marks(AB, ((),)), ((),))
        self.assertEqual(marks(NONE, (("b",),)), ((), ("b",)))
        self.assertEqual(marks(AB, (("a", "b"),)), ((), ("a",), ("b",), ("a", "b")))
        self.assertEqual(marks(AB, (("b",), (), ("a", "b"))), ((), ("a",), ("b",), ("a", "b")))
        house = ("house", ("z", "y", "x"), YES)
        self.assertEqual(marks(house, (("y", "x"), ("z", "x"))), ((), ("z",), ("y",), ("x",), ("z", "x"), ("y", "x")))

    def test_twenty_lots_and_no_more(self):
        every = [lot for size in range(8) for lot in itertools.combinations(SEVEN[1], size)]
        self.assertEqual(len(marks(SEVEN, tuple(every[:20]))), 20)
        with self.assertRaises(BadLots):
            marks(SEVEN, tuple(every[:21]))
        self.assertEqual(len(marks(SEVEN, (SEVEN[1],))), 128)

    def test_against_slow(self):
        dice = dice_of(801)
        for house in HOUSES + tuple(random_house(dice, dice.randint(1, 6)) for _ in range(20)):
            for _ in range(6):
                lots = random_lots(dice, house, 6)
                self.assertEqual(marks(house, lots), slow_marks(house, lots))

    def test_wrong_values(self):
        for bad in BAD_LOTS:
            assert_judged(self, marks, [AB, (("a",),)], (0, "house", BadHouse), (1, bad, BadLots))


class TestTallies(unittest.TestCase):
    def test_example(self):
        self.assertEqual(tallies(OR, LINE, ("sum",)), (3, 1, 2))
        self.assertEqual(tallies(OR, LINE, ("shown",)), (2, 1, 2))
        self.assertEqual(tallies(OR, LINE, ("times", 1)), (1, 1, 2))
        self.assertEqual(tallies(OR, LINE, ("times", 2)), (1, 0, 0))
        self.assertEqual(tallies(OR, LINE, ("times", 10 ** 8)), (0, 0, 0))

    def test_truths_are_no_numbers(self):
        line = ("then", show(TRUE), ("then", show(num(1)), ("then", show(FALSE), show(TRUE))))
        for measure, number in zip(MEASURES, (4, 1, 1, 0, 0, 2, 1)):
            self.assertEqual(tallies(ONE, line, measure), (number, number))

    def test_what_is_shown_ahead_of_stuck(self):
        line = ("then", show(num(5)), ("then", when("a", X, num(0)), show(num(7))))
        self.assertEqual(tallies(ONE, line, ("sum",)), (12, 5))
        self.assertEqual(tallies(NONE, line, ("sum",)), ())

    def test_against_runs(self):
        for house, line, _ in lines(802, 8):
            for measure in MEASURES:
                expected = [slow_tally(run(slow_build(line, setting))[0], measure) for setting in slow_let(house)]
                self.assertEqual(tallies(house, line, measure), tuple(expected))

    def test_wrong_values(self):
        for bad in STRANGE + (
                ("shown", 1), ("sum", "yes"), ("times",), ("times", -1), ("times", True), ("times", False), ("times", "maybe"),
                ("times", None), ("times", 1, 1), ("time", 1), ["sum"], (), ("sum", "sum"), ("times", (1,)), ("times", [])) + tuple(spoiled(("sum",))):
            assert_judged(self, tallies, [OR, LINE, ("sum",)], (0, None, BadHouse), (1, LINE[:2], BadLine), (2, bad, BadMeasure))


class TestLotsOf(unittest.TestCase):
    def test_example(self):
        self.assertEqual(lots_of(OR, LINE), (("a",), ("b",)))

    def test_by_hand(self):
        self.assertEqual(lots_of(AB, num(1)), ())
        self.assertEqual(lots_of(AB, show(num(1))), ((),))
        self.assertEqual(lots_of(AB, plus(show(num(1)), show(when("a", num(1), num(2))))), (("a",),))
        self.assertEqual(lots_of(AB, show(when("a", num(1), num(1)))), ((),))
        self.assertEqual(lots_of(AB, when("a", show(num(1)), num(1))), (("a",),))
        self.assertEqual(lots_of(AB, when("a", show(num(1)), show(num(1)))), (("a",),))
        self.assertEqual(lots_of(AB, when("b", show(when("a", num(1), num(2))), num(1))), (("a", "b"),))
        # A show that is never reached has no row, and hangs on nothing.
        self.assertEqual(lots_of(AB, ("then", X, show(when("a", num(1), num(2))))), ((),))
        house = ("house", ("z", "y", "x"), YES)
        three = plus(show(when("x", num(1), num(2))), plus(show(when("y", num(1), num(2))), show(when("z", num(1), num(2)))))
        self.assertEqual(lots_of(house, three), (("z",), ("y",), ("x",)))

    def test_the_rule_does_not_count(self):
        for rule in (YES, NO, ("is", "a"), ("not", ("is", "b"))):
            self.assertEqual(lots_of(("house", ("a", "b"), rule), LINE), (("a",), ("b",)))

    def test_against_the_book(self):
        for house, line, _ in lines(803, 10):
            whole = ("house", house[1], YES)
            lots = set()
            for path, row in book(whole, line):
                if slow_paths(line)[path][0] == "show":
                    named = {word for _, condition in row for word in words_in(condition)}
                    lots.add(tuple(s for s in house[1] if s in named))
            widest = [lot for lot in lots if not any(set(lot) < set(other) for other in lots)]
            widest.sort(key=lambda lot: (len(lot), [house[1].index(s) for s in lot]))
            self.assertEqual(lots_of(house, line), tuple(widest))

    def test_all_tallies_are_within_under_every_rule(self):
        dice = dice_of(804)
        for house, line, _ in lines(805, 6):
            lots = lots_of(house, line)
            if len(lots) > 20:
                continue
            for other in (house, ("house", house[1], YES), ruled(dice, house[1]), ruled(dice, house[1])):
                for measure in MEASURES:
                    self.assertIsNotNone(weights(other, lots, tallies(other, line, measure)), (other, line, measure))

    def test_wrong_values(self):
        for bad in STRANGE + (when("c", num(1), num(2)), list(LINE)):
            assert_judged(self, lots_of, [AB, num(1)], (0, AB[1], BadHouse), (1, bad, BadLine))


def words_in(condition):
    return [word for part in condition if isinstance(part, tuple) for word in words_in(part)] + (
        [condition[1]] if condition[0] == "split" else [])


if __name__ == "__main__":
    unittest.main()

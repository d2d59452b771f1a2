"""Point 25, and what point 28 says of it: forks to blame."""

import itertools
import unittest

from manybuilds.blame import freed, freed_text, taken
from manybuilds.errors import BadFork, BadHouse, BadLot, BadRows, BadText, TooMany
from manybuilds.readings import reading
from tests.helpers import (
    AB, HOUSES, NO, NONE, OR, STRANGE, YES, assert_judged, assert_told, dice_of, is_read, line_text, random_condition,
    random_house, random_line, random_text, slow_condition_text, slow_holds, slow_let, slow_told, slow_where)
from tests.test_forks import A, EXAMPLE

ONE = ("house", ("a",), YES)


def forks_of(text):
    return [at for at, row in enumerate(text.split("\n")) if row.split()[:1] == ["only"]]


def with_conditions(text, changes):
    """The text with other conditions in the rows of some forks."""
    rows = text.split("\n")
    for fork, condition in changes.items():
        rows[fork] = "only " + slow_condition_text(condition)
    return "\n".join(rows)


def read_settings(house, text):
    told = slow_told(house, text)
    return [setting for setting in slow_let(house) if is_read([word for _, word in slow_where(told, setting)])]


def slow_frees(house, text, lot):
    """Whether each let setting is read for some outcomes of the forks of the lot."""
    left = set(slow_let(house))
    for outcomes in itertools.product((YES, NO), repeat=len(lot)):
        left -= set(read_settings(house, with_conditions(text, dict(zip(lot, outcomes)))))
    return not left


def slow_freed(house, text):
    forks = forks_of(text)
    lots = [lot for size in range(len(forks) + 1) for lot in itertools.combinations(forks, size)]
    freeing = [lot for lot in lots if slow_frees(house, text, lot)]
    return tuple(sorted(lot for lot in freeing if not any(set(other) < set(lot) for other in freeing)))


def texts(seed, many, forks=3, houses=HOUSES):
    """Houses and texts of few forks that are read for some settings."""
    dice = dice_of(seed)
    for house in houses + tuple(random_house(dice, dice.randint(1, 3)) for _ in range(6)):
        made = 0
        while made < many:
            if dice.random() < 0.6:
                text = line_text(dice, house, random_line(dice, house[1], dice.randint(1, 9)))
                for fork in forks_of(text):
                    if dice.random() < 0.5:
                        text = with_conditions(text, {fork: random_condition(dice, house[1], 3)})
            else:
                text = random_text(dice, house, dice.randint(0, 5), dice.randint(0, 3), random_line(dice, (), 4))
            if len(forks_of(text)) <= forks:
                made += 1
                yield house, text, dice


class TestTaken(unittest.TestCase):
    def test_example(self):
        let = ("split", "a", YES, ("split", "b", YES, NO))
        self.assertEqual(taken(OR, EXAMPLE, 4), (let, NO))
        self.assertEqual(taken(OR, EXAMPLE, 1), (("split", "b", YES, NO), ("split", "b", YES, NO)))

    def test_by_hand(self):
        self.assertEqual(taken(AB, "only a\n1\nover", 0), (YES, NO))
        self.assertEqual(taken(AB, "only a\nshow\nover\nonly b\n1\nover", 3), (YES, NO))
        self.assertEqual(taken(AB, "only a\n1\nonly b\n2\nover\nover", 2), (NO, A))
        self.assertEqual(taken(AB, "only a\n1\nonly b\n2\nover\nover", 0), (("split", "b", NO, YES), NO))
        self.assertEqual(taken(NONE, "only a\n1\nover", 0), (NO, NO))

    def test_against_slow(self):
        for house, text, _ in texts(111, 15, 6):
            for fork in forks_of(text):
                for condition, outcome in zip(taken(house, text, fork), (YES, NO)):
                    assert_told(self, house, condition, read_settings(house, with_conditions(text, {fork: outcome})))

    def test_with_another_condition(self):
        whole = [0, 0]
        for house, text, dice in texts(112, 20):
            for fork in forks_of(text):
                on, off = taken(house, text, fork)
                for condition in (random_condition(dice, house[1], 3), on, ("not", off)):
                    changed = with_conditions(text, {fork: condition})
                    all_read = all(slow_holds(on if slow_holds(condition, s) else off, s) for s in slow_let(house))
                    self.assertIs(read_settings(house, changed) == slow_let(house), all_read)
                    self.assertIs(reading(house, changed)[2] == (), all_read)
                    whole[all_read] += 1
        self.assertGreater(min(whole), 30)

    def test_bad_fork(self):
        text = "1\nonly a\nonly b\nother\nover\nover\n"
        for fork in (1, 2):
            taken(AB, text, fork)
        for bad in (0, 3, 4, 5, 6, 7, -1, -6, True, False, None, "1", (1,), [1], b"1", 10 ** 8):
            with self.assertRaises(BadFork):
                taken(AB, text, bad)
        with self.assertRaises(BadFork):
            taken(AB, "only a\n1\nover", False)
        for bad in STRANGE:
            with self.assertRaises(BadFork):
                taken(AB, "1", bad)


class TestFreed(unittest.TestCase):
    def test_example(self):
        self.assertEqual(freed(OR, EXAMPLE), ((4,),))

    def test_by_hand(self):
        self.assertEqual(freed(AB, "1"), ((),))
        self.assertEqual(freed(AB, "1 2"), ())
        self.assertEqual(freed(AB, ""), ())
        self.assertEqual(freed(AB, "only a\n1\nother\n2\nover"), ((),))
        self.assertEqual(freed(AB, "only a\n1\nother\nor\nover"), ((0,),))
        self.assertEqual(freed(AB, "1\nonly a\n2\nover"), ((1,),))
        self.assertEqual(freed(AB, "only a\n1\nover\nonly b\n2\nover"), ((0,), (3,)))
        self.assertEqual(freed(AB, "only a\n1\nover\nonly a\n2\nover\n"), ((0,), (3,)))
        self.assertEqual(freed(AB, "only no\n1\nonly no\nor\nother\n2\nover\nover"), ())
        self.assertEqual(freed(AB, "only no\nplus\nover\n1\nonly no\nwith 2\nover\nonly yes\nor\nover"), ((7,),))
        self.assertEqual(freed(AB, "only a\nplus\nover\n1\nonly yes\nwith 2\nover"), ((0,), (4,)))
        self.assertEqual(freed(AB, "only a\nplus\nover\n1\nonly b\nwith 2\nover\nonly a\nor\nover"), ((0, 7), (4, 7)))

    def test_no_let_setting(self):
        self.assertEqual(freed(NONE, "or"), ((),))
        self.assertEqual(freed_text(NONE, "only a\nor\nover", ()), "only a\nor\nover")

    def test_against_slow(self):
        several = 0
        for house, text, _ in texts(113, 25):
            expected = slow_freed(house, text)
            self.assertEqual(freed(house, text), expected, (house, text))
            several += any(expected)
        self.assertGreater(several, 20)

    def test_ascending(self):
        for house, text, _ in texts(114, 15, 6):
            lots = freed(house, text)
            self.assertEqual(list(lots), sorted(lots))
            for lot in lots:
                self.assertEqual(list(lot), sorted(set(lot)))
            self.assertEqual(any(lot == () for lot in lots), read_settings(house, text) == slow_let(house))


class TestFreedText(unittest.TestCase):
    def test_example(self):
        text = freed_text(OR, EXAMPLE, (4,))
        self.assertEqual(reading(OR, text)[1:], (("split", "a", YES, ("split", "b", YES, NO)), ()))
        self.assertIsNone(freed_text(OR, EXAMPLE, ()))
        self.assertIsNone(freed_text(OR, EXAMPLE, (1,)))

    def test_an_empty_lot_and_rows_that_may_stay(self):
        text = "  only  a \n1\nother\n 2\nover "
        self.assertEqual(freed_text(AB, text, ()), text)
        self.assertEqual(freed_text(AB, "only a\nor\nover", ()), None)
        self.assertEqual(freed_text(ONE, "show\n only  a\n1\nother\nor\nover", (1,)).split("\n")[2:], ["1", "other", "or", "over"])

    def test_conditions_that_may_stay_stay(self):
        text = "  only   a\n1\nother\n 2\nover\nonly b \nor\nover"
        rows = freed_text(AB, text, (0, 5)).split("\n")
        self.assertEqual(rows[:5], text.split("\n")[:5])
        self.assertEqual(rows[6:], ["or", "over"])
        self.assertEqual(freed_text(AB, "only a\n1\nother\n2\nover", (0,)), "only a\n1\nother\n2\nover")

    def test_against_each_other(self):
        told = refused = 0
        for house, text, dice in texts(115, 20, 4):
            forks = forks_of(text)
            lots = freed(house, text)
            for lot in [lot for size in range(len(forks) + 1) for lot in itertools.combinations(forks, size)]:
                found = freed_text(house, text, lot)
                self.assertIs(found is None, not any(set(least) <= set(lot) for least in lots))
                if found is None:
                    refused += 1
                    continue
                told += 1
                self.assertEqual(read_settings(house, found), slow_let(house))
                self.assertEqual(reading(house, found)[2], ())
                rows, changed = text.split("\n"), found.split("\n")
                self.assertEqual(len(rows), len(changed))
                for at, (row, other) in enumerate(zip(rows, changed)):
                    if at not in lot:
                        self.assertEqual(row, other)
                    self.assertEqual(row.split()[:1], other.split()[:1])
                self.assertEqual([word for word, _ in slow_told(house, text)], [word for word, _ in slow_told(house, found)])
        self.assertGreater(told, 50)
        self.assertGreater(refused, 50)

    def test_bad_lots(self):
        text = "only a\n1\nover\nonly b\n2\nover"
        for lot in ((), (0,), (3,), (0, 3)):
            freed_text(AB, text, lot)
        for bad in ((3, 0), (0, 0), (1,), (0, 1), (0, 3, 3), [0], (False,), ("0",), (None,), (0, True), None, 0, {0}, ((0,),), (-6,),
                    (6,), "", (0, "3")):
            with self.assertRaises(BadLot):
                freed_text(AB, text, bad)
        for bad in STRANGE:
            if bad != ():
                with self.assertRaises(BadLot):
                    freed_text(AB, "1\nonly a\nover" if bad == (0,) else text if bad == (1,) else "1", bad)


class TestTooMany(unittest.TestCase):
    def text(self, many):
        return "\n".join(["only a\nshow\nover"] * many + ["only b\n1\nother\nor\nover"])

    def test_eight_are_not_too_many(self):
        text = self.text(7)
        self.assertEqual(freed(AB, text), ((21,),))
        self.assertEqual(read_settings(AB, freed_text(AB, text, (0, 21))), slow_let(AB))
        self.assertIsNone(freed_text(AB, text, (0, 3, 18)))

    def test_nine_are(self):
        text = self.text(8)
        for function in (lambda: freed(AB, text), lambda: freed_text(AB, text, (24,)), lambda: freed_text(AB, text, ())):
            with self.assertRaises(TooMany) as caught:
                function()
            self.assertEqual(caught.exception.most, 8)
        self.assertEqual(taken(AB, text, 24), (YES, NO))
        with self.assertRaises(BadLot):
            freed_text(AB, text, (1,))
        with self.assertRaises(BadFork):
            taken(AB, text, 25)
        with self.assertRaises(BadRows):
            freed(AB, text + "\nover")

    def test_eight_forks_that_all_count(self):
        rows = ["plus"] + ["only b\nonly a\nor\nover\nover"] * 4 + ["1 with 2"]
        text = "\n".join(rows)
        self.assertEqual(len(forks_of(text)), 8)
        found = freed(AB, text)
        self.assertEqual(len(found), 16)
        self.assertTrue(all(len(lot) == 4 for lot in found))
        for lot in found:
            self.assertEqual(read_settings(AB, freed_text(AB, text, lot)), slow_let(AB))


class TestRefused(unittest.TestCase):
    def test_errors_in_their_order(self):
        text = "only a\n1\nover"
        wrong = ((0, (), BadHouse), (1, None, BadText), (1, "over", BadRows))
        assert_judged(self, taken, (AB, text, 0), *wrong, (2, 1, BadFork))
        assert_judged(self, freed, (AB, text), *wrong)
        assert_judged(self, freed_text, (AB, text, (0,)), *wrong, (2, (1,), BadLot))

    def test_wrong_values(self):
        for bad in STRANGE:
            for function, rest in ((taken, (0,)), (freed, ()), (freed_text, ((),))):
                with self.assertRaises(BadHouse):
                    function(bad, "only a\nover", *rest)
                if not isinstance(bad, str):
                    with self.assertRaises(BadText):
                        function(AB, bad, *rest)


if __name__ == "__main__":
    unittest.main()

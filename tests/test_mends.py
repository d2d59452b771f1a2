"""Points 52 and 53, and what point 56 says of them: mends of one build and of all."""

import itertools
import unittest

from manybuilds.chains import chain
from manybuilds.errors import BadHouse, BadLine, BadMost, BadSetting, TooMany
from manybuilds.flows import Flow
from manybuilds.mends import fewest_mends, is_mend, is_mend_all, mend, mend_all
from manybuilds.ties import good_where
from manybuilds.webs import Web
from tests.helpers import (
    AB, HOUSES, NONE, OR, SEVEN, STRANGE, YES, assert_judged, dice_of, num, plus, random_house, random_line, slow_all,
    slow_holds, slow_let, spoiled, when)
from tests.test_chains import slow_is_chain
from tests.test_ties import LINE, TRUE, slow_reached, slow_standing, slow_ties, typed_line

CHAIN_A = (((), 1), ((1,), 2), ((1, 2), 0))
CHAIN_B = (((), 2), ((2,), 2), ((2, 2), 0))
BOTH = ("a", "b")


def slow_mends(line, setting, lot):
    pairs = [ends for tie, ends in slow_standing(line, setting).items() if tie not in lot]
    return "truth" not in slow_reached(pairs, "number")


def slow_fewest(line, settings, most):
    """The fewest ties whose lot mends all these settings, None if more than most are needed."""
    known = sorted(slow_ties(line))
    for many in range(most + 1):
        for lot in itertools.combinations(known, many):
            if all(slow_mends(line, setting, lot) for setting in settings):
                return many
    return None


def slow_is_refusal(house, line, lot, most, thing):
    setting, chain, refusals = thing
    if setting not in slow_let(house) or not slow_is_chain(slow_standing(line, setting), chain) or set(chain) & set(lot):
        return False
    if most == 0:
        return refusals == ()
    return len(refusals) == len(chain) and all(
        slow_is_refusal(house, line, lot + (tie,), most - 1, inner) for tie, inner in zip(chain, refusals))


def cases(seed, many, size=18):
    dice = dice_of(seed)
    for house in HOUSES + tuple(random_house(dice, dice.randint(1, 3)) for _ in range(8)):
        for _ in range(many):
            if dice.random() < 0.3:
                yield house, random_line(dice, house[1], dice.randint(1, size)), dice
            else:
                yield house, typed_line(dice, house[1], dice.randint(4, 2 * size), wrong=dice.choice((0.1, 0.2, 0.3))), dice


def wide(clashes):
    """A line in which so many truths stand where numbers must, each for another switch of a house of seven."""
    line = num(0)
    for s in SEVEN[1][:clashes]:
        line = plus(when(s, TRUE, num(1)), line)
    return line


class TestMend(unittest.TestCase):
    def test_example(self):
        lot, chains = mend(AB, LINE, BOTH)
        self.assertEqual(set(chains), {CHAIN_A, CHAIN_B})
        self.assertEqual(len(lot), 2)
        self.assertIs(is_mend(AB, LINE, BOTH, ((((), 1), ((), 2)), (CHAIN_A, CHAIN_B))), True)
        self.assertEqual(mend(AB, LINE, ()), ((), ()))
        self.assertEqual(mend(AB, LINE, ("a",))[1], (CHAIN_A,))

    def test_a_setting_that_is_not_let(self):
        self.assertEqual(mend(NONE, LINE, ("a",))[1], (CHAIN_A,))
        self.assertIs(is_mend(NONE, LINE, ("a",), ((((), 1),), (CHAIN_A,))), True)
        self.assertEqual(mend(OR, LINE, ()), ((), ()))

    def test_as_many_places_as_clashes(self):
        line = ("let", "x", num(1), plus(("if", ("name", "x"), ("name", "x"), num(1)), ("less", ("name", "x"), TRUE)))
        lot, chains = mend(AB, line, ())
        self.assertEqual(len(lot), len(chains))
        self.assertEqual(len(lot), slow_fewest(line, [()], 5))

    def test_the_shortest_chain_in_the_way(self):
        """The shortest chain leads over the tie of both names, and must be given up for two others."""
        def shown(thing):
            return ("show", ("show", ("show", thing)))
        x, y, w = ("name", "x"), ("name", "y"), ("name", "w")
        body = ("then", plus(x, shown(y)), ("then", ("if", y, w, w), ("if", shown(x), w, w)))
        line = ("let", "x", ("name", "z"), ("let", "y", x, body))
        lot, chains = found = mend(AB, line, ())
        self.assertEqual((len(lot), len(chains)), (2, 2))
        self.assertIs(is_mend(AB, line, (), found), True)
        shortest = chain(AB, line, ((), ()))
        self.assertIn(((3, 2), 0), shortest)
        self.assertNotIn(((3, 2), 0), chains[0] + chains[1])

    def test_rings_are_no_part_of_chains(self):
        web = Web(AB[1], plus(num(1), TRUE))
        flow = Flow(web, [True] * len(web.masks))
        known = flow.chains()
        ring = {web.places[(), 1]: web.terms["number"], web.places[(1,), 0]: web.terms[1,]}
        flow.sources.update(ring)
        self.assertEqual(flow.chains(), known)
        self.assertEqual(web.ties_at(known[0]), (((), 2), ((2,), 0)))

    def test_rings_on_the_way(self):
        x, v, w = ("name", "x"), ("name", "v"), ("name", "w")
        line = ("let", "x", v, ("then", ("if", w, x, x), ("then", plus(x, num(1)), ("if", x, v, v))))
        web = Web(AB[1], line)
        flow = Flow(web, [True] * len(web.masks))
        known = flow.chains()
        self.assertEqual(len(known), 1)
        ring = (((3, 1, 2), 0, (2,)), ((3, 1), 2, (3, 1, 2)), ((3, 1), 3, (3, 1)), ((3, 1, 3), 0, (3, 1, 3)))
        flow.sources.update({web.places[path, index]: web.terms[source] for path, index, source in ring})
        self.assertEqual(flow.chains(), known)
        self.assertTrue(slow_is_chain(slow_standing(line, ()), web.ties_at(known[0])))

    def test_as_many_chains_as_ties(self):
        dice = dice_of(171)
        several = 0
        for _ in range(400):
            line = typed_line(dice, ("a",), dice.randint(12, 30), wrong=0.25)
            lot, chains = mend(("house", ("a",), YES), line, ())
            self.assertEqual(len(lot), len(chains))
            self.assertTrue(slow_mends(line, (), lot))
            self.assertEqual(sum(map(len, chains)), len({tie for known in chains for tie in known}))
            several += len(lot) > 1
        self.assertGreater(several, 80)

    def test_each_passes_its_judge(self):
        told = [0, 0, 0]
        for house, line, _ in cases(172, 6):
            for setting in slow_all(house):
                lot, chains = found = mend(house, line, setting)
                self.assertEqual(list(lot), sorted(set(lot)))
                self.assertTrue(slow_mends(line, setting, lot))
                self.assertEqual(len(lot), len(chains))
                pairs = slow_standing(line, setting)
                self.assertTrue(all(slow_is_chain(pairs, known) for known in chains))
                used = [tie for known in chains for tie in known]
                self.assertEqual(len(used), len(set(used)))
                self.assertIs(is_mend(house, line, setting, found), True)
                told[min(len(lot), 2)] += 1
        self.assertGreater(min(told), 30)

    def test_no_fewer_ties_mend(self):
        for house, line, _ in cases(173, 3, 10):
            for setting in slow_let(house)[:2]:
                lot, _ = mend(house, line, setting)
                if len(lot) < 3:
                    self.assertEqual(slow_fewest(line, [setting], 2), len(lot))


class TestIsMend(unittest.TestCase):
    def test_wrong_pairs(self):
        lot = (((), 1), ((), 2))
        good = (lot, (CHAIN_A, CHAIN_B))
        self.assertIs(is_mend(AB, LINE, BOTH, good), True)
        self.assertIs(is_mend(AB, LINE, BOTH, (lot, (CHAIN_B, CHAIN_A))), True)
        self.assertIs(is_mend(AB, LINE, BOTH, ((((), 1), ((2, 2), 0)), (CHAIN_A, CHAIN_B))), True)
        for wrong in (
                (lot[::-1], (CHAIN_A, CHAIN_B)), (lot[:1], (CHAIN_A,)), (lot, (CHAIN_A,)), (lot, (CHAIN_A, CHAIN_A)),
                (lot[:1], (CHAIN_A, CHAIN_B)), ((((), 1), ((), 1)), (CHAIN_A, CHAIN_B)), (lot, ()), ((), ()), ((), (CHAIN_A,)),
                ((((), 1), ((1,), 2)), (CHAIN_A, CHAIN_B)), (lot, (CHAIN_A[::-1], CHAIN_B)), (lot, (CHAIN_A, CHAIN_B[:2])),
                (((), 1), (CHAIN_A, CHAIN_B)), (lot + (((1,), 3),), (CHAIN_A, CHAIN_B, CHAIN_A)), lot, (lot,),
                (lot, (CHAIN_A, CHAIN_B), ()), ((((), 0), ((), 1), ((), 2)), (CHAIN_A, CHAIN_B))):
            self.assertIs(is_mend(AB, LINE, BOTH, wrong), False, wrong)

    def test_any_value(self):
        good = ((((), 1), ((), 2)), (CHAIN_A, CHAIN_B))
        for thing in STRANGE:
            self.assertIs(is_mend(AB, LINE, BOTH, thing), False, thing)
            self.assertIs(is_mend(AB, LINE, (), thing), False, thing)
        for wrong in spoiled(good):
            self.assertIs(is_mend(AB, LINE, BOTH, wrong), False, wrong)
        for wrong in spoiled(((), ())):
            self.assertIs(is_mend(AB, LINE, (), wrong), False, wrong)
        self.assertIs(is_mend(AB, LINE, (), ((), ())), True)

    def test_ties_that_do_not_stand_are_ties_of_the_line_too(self):
        # They mend nothing, so no lot with as many chains has one.
        self.assertIs(is_mend(AB, LINE, ("a",), ((((1,), 3),), (CHAIN_A,))), False)
        self.assertIs(is_mend(AB, LINE, ("a",), ((((1,), 2),), (CHAIN_A,))), True)
        self.assertIs(is_mend(AB, LINE, ("a",), ((((1, 2), 0),), (CHAIN_B,))), False)
        self.assertIs(is_mend(AB, LINE, (), ((((1,), 3),), (CHAIN_A,))), False)


class TestMendAll(unittest.TestCase):
    def test_example(self):
        tag, refusal = mend_all(AB, LINE, 1)
        self.assertEqual(tag, "none")
        refused = (("a",), CHAIN_A, ((("b",), CHAIN_B, ()),) * 3)
        self.assertIs(is_mend_all(AB, LINE, 1, ("none", refused)), True)
        self.assertTrue(slow_is_refusal(AB, LINE, (), 1, refusal))
        self.assertEqual(fewest_mends(AB, LINE), 2)
        self.assertEqual(mend_all(AB, LINE, 2)[0], "lot")
        self.assertIs(is_mend_all(AB, LINE, 2, ("lot", (((), 1), ((), 2)))), True)
        self.assertIs(is_mend_all(AB, LINE, 2, ("none", refused)), False)

    def test_nothing_to_mend(self):
        for house, line in ((AB, num(1)), (NONE, LINE), (NONE, plus(TRUE, TRUE))):
            for most in range(4):
                self.assertEqual(mend_all(house, line, most), ("lot", ()))
                self.assertIs(is_mend_all(house, line, most, ("lot", ())), True)
            self.assertEqual(fewest_mends(house, line), 0)

    def test_one_tie_for_several_settings(self):
        line = plus(num(1), ("show", when("a", when("b", TRUE, TRUE), num(2))))
        self.assertEqual(fewest_mends(AB, line), 1)
        tag, lot = mend_all(AB, line, 1)
        self.assertEqual((tag, len(lot)), ("lot", 1))

    def test_from_none_to_three(self):
        for many in range(5):
            line = wide(many)
            for most in range(4):
                tag, thing = found = mend_all(SEVEN, line, most)
                self.assertEqual(tag, "lot" if many <= most else "none")
                self.assertIs(is_mend_all(SEVEN, line, most, found), True)
                if tag == "lot":
                    self.assertLessEqual(len(thing), most)
            if many < 4:
                self.assertEqual(fewest_mends(SEVEN, line), many)
            else:
                with self.assertRaises(TooMany) as caught:
                    fewest_mends(SEVEN, line)
                self.assertEqual(caught.exception.most, 3)

    def test_a_lot_where_chains_without_a_common_tie_are_fewer(self):
        """Chains of unlike settings meet pair by pair: two ties are needed, though no two chains are apart."""
        house = ("house", ("a", "b", "c"), ("or", ("and", ("is", "a"), ("not", ("or", ("is", "b"), ("is", "c")))), ("or", (
            "and", ("is", "b"), ("not", ("or", ("is", "a"), ("is", "c")))), ("and", ("is", "c"), ("not", ("or", ("is", "a"), ("is", "b")))))))
        self.assertEqual(slow_let(house), [("c",), ("b",), ("a",)])
        found = 0
        dice = dice_of(174)
        for _ in range(1500):
            line = typed_line(dice, house[1], dice.randint(12, 30), wrong=0.15)
            for most in (1, 2):
                tag, thing = mend_all(house, line, most)
                if tag == "none":
                    self.assertTrue(slow_is_refusal(house, line, (), most, thing))
                    found += len({str(inner) for inner in thing[2]}) > 1
                else:
                    self.assertTrue(all(slow_mends(line, setting, thing) for setting in slow_let(house)))
        self.assertGreater(found, 5)

    def test_against_slow(self):
        counts = {"lot": 0, "none": 0}
        for house, line, _ in cases(175, 30, 12):
            if len(slow_ties(line)) > 18:
                continue
            settings = slow_let(house)
            fewest = slow_fewest(line, settings, 3)
            for most in range(4):
                tag, thing = found = mend_all(house, line, most)
                self.assertEqual(tag, "lot" if fewest is not None and fewest <= most else "none", (house, line, most))
                counts[tag] += 1
                self.assertIs(is_mend_all(house, line, most, found), True)
                if tag == "none":
                    self.assertTrue(slow_is_refusal(house, line, (), most, thing))
                else:
                    self.assertEqual(list(thing), sorted(set(thing)))
                    self.assertTrue(all(slow_mends(line, setting, thing) for setting in settings))
                    self.assertLessEqual(len(thing), most)
            if fewest is None:
                with self.assertRaises(TooMany):
                    fewest_mends(house, line)
            else:
                self.assertEqual(fewest_mends(house, line), fewest)
        self.assertGreater(min(counts.values()), 60)

    def test_just_one_of_lot_and_refusal(self):
        for house, line, dice in cases(176, 5):
            for most in range(3):
                tag, thing = mend_all(house, line, most)
                known = sorted(slow_ties(line))
                for _ in range(6):
                    lot = tuple(sorted(dice.sample(known, min(len(known), most))))
                    mends = all(slow_mends(line, setting, lot) for setting in slow_let(house))
                    self.assertIs(is_mend_all(house, line, most, ("lot", lot)), mends)
                    self.assertFalse(tag == "none" and mends)
                self.assertIs(is_mend_all(house, line, most, ("none" if tag == "lot" else "lot", thing)), False)

    def test_fewer_than_good(self):
        for house, line, _ in cases(177, 4):
            try:
                many = fewest_mends(house, line)
            except TooMany:
                many = 4
            good = all(slow_holds(good_where(house, line), setting) for setting in slow_let(house))
            self.assertIs(many == 0, good)


class TestIsMendAll(unittest.TestCase):
    REFUSED = ("none", (("a",), CHAIN_A, ((("b",), CHAIN_B, ()),) * 3))

    def test_wrong_refusals(self):
        setting, chain, refusals = self.REFUSED[1]
        below = (("b",), CHAIN_B, ())
        self.assertIs(is_mend_all(AB, LINE, 1, self.REFUSED), True)
        self.assertIs(is_mend_all(AB, LINE, 1, ("none", (BOTH, chain, ((BOTH, CHAIN_B, ()),) * 3))), True)
        self.assertIs(is_mend_all(AB, LINE, 0, ("none", below)), True)
        for wrong in (
                (setting, chain, refusals[:2]), (setting, chain, refusals + refusals[:1]), (setting, chain, ()),
                (setting, CHAIN_B, refusals), ((), chain, refusals), (setting, chain[:2], refusals[:2]),
                # The tie of the chain must not be in the chain of the refusal below it.
                (setting, chain, (below, below, (("a",), CHAIN_A, ()))), (("b",), CHAIN_B, refusals),
                (setting, chain, (below, below, (("a",), CHAIN_B, ()))), (setting, chain, (below, below, (("b",), CHAIN_B, (below,)))),
                (setting, (), ()), (("c",), chain, refusals), (("b", "a"), chain, refusals), (setting, chain, (below, below, None))):
            self.assertIs(is_mend_all(AB, LINE, 1, ("none", wrong)), False, wrong)
        for most in (0, 2, 3):
            self.assertIs(is_mend_all(AB, LINE, most, self.REFUSED), False)
        self.assertIs(is_mend_all(AB, LINE, 1, ("lot", self.REFUSED[1])), False)

    def test_settings_that_are_not_let(self):
        house = ("house", ("a", "b"), ("not", ("and", ("is", "a"), ("is", "b"))))
        self.assertIs(is_mend_all(house, LINE, 1, self.REFUSED), True)
        self.assertIs(is_mend_all(house, LINE, 1, ("none", (BOTH, CHAIN_A, self.REFUSED[1][2]))), False)
        self.assertIs(is_mend_all(house, LINE, 0, ("none", (BOTH, CHAIN_A, ()))), False)

    def test_wrong_lots(self):
        lot = (((), 1), ((), 2))
        self.assertIs(is_mend_all(AB, LINE, 2, ("lot", lot)), True)
        self.assertIs(is_mend_all(AB, LINE, 3, ("lot", lot)), True)
        self.assertIs(is_mend_all(AB, LINE, 3, ("lot", (((), 0),) + lot)), True)
        for most, wrong in ((1, lot), (2, lot[::-1]), (2, lot[:1]), (2, ()), (3, lot + lot[1:]), (2, (((), 1), ((1,), 2))),
                            (2, (((), 0),) + lot), (3, lot + (((), 3),)), (3, lot + (None,)), (2, list(lot)), (2, None)):
            self.assertIs(is_mend_all(AB, LINE, most, ("lot", wrong)), False, wrong)

    def test_any_value(self):
        for thing in STRANGE:
            for most in range(4):
                self.assertIs(is_mend_all(AB, LINE, most, thing), False, thing)
                self.assertIs(is_mend_all(AB, LINE, most, ("none", thing)), False, thing)
                if thing != ():
                    self.assertIs(is_mend_all(AB, LINE, most, ("lot", thing)), False, thing)
        for wrong in spoiled(self.REFUSED):
            self.assertIs(is_mend_all(AB, LINE, 1, wrong), False, wrong)
        for wrong in spoiled(("lot", (((), 1), ((), 2)))):
            self.assertIs(is_mend_all(AB, LINE, 2, wrong), False, wrong)
        lot = (((), 1), ((), 2))
        for wrong in (("lot", lot, ()), ("lot",), ("lots", lot), ("not", lot), (None, lot), ("", lot), ("lot", ("lot", lot))):
            self.assertIs(is_mend_all(AB, LINE, 2, wrong), False, wrong)
        for wrong in (("nones", self.REFUSED[1]), ("not", self.REFUSED[1]), self.REFUSED + (1,), (None, self.REFUSED[1])):
            self.assertIs(is_mend_all(AB, LINE, 1, wrong), False, wrong)


class TestRefused(unittest.TestCase):
    def test_errors_in_their_order(self):
        wrong = ((0, (), BadHouse), (1, (), BadLine))
        assert_judged(self, mend, (AB, LINE, ()), *wrong, (2, ("c",), BadSetting))
        assert_judged(self, is_mend, (AB, LINE, (), ()), *wrong, (2, ("c",), BadSetting))
        assert_judged(self, mend_all, (AB, LINE, 1), *wrong, (2, 4, BadMost))
        assert_judged(self, is_mend_all, (AB, LINE, 1, ()), *wrong, (2, 4, BadMost))
        assert_judged(self, fewest_mends, (AB, LINE), *wrong)

    def test_wrong_values(self):
        for bad in STRANGE + (-1, 4, True, False, ["a"], ("b", "a"), ("a", "a")):
            if bad != ():
                for function, rest in ((mend, ()), (is_mend, ((),))):
                    with self.assertRaises(BadSetting):
                        function(AB, LINE, bad, *rest)
            if type(bad) is not int or not 0 <= bad <= 3:
                for function, rest in ((mend_all, ()), (is_mend_all, ((),))):
                    with self.assertRaises(BadMost):
                        function(AB, LINE, bad, *rest)
            for function, rest in ((mend, ((),)), (mend_all, (1,)), (is_mend, ((), ())), (is_mend_all, (1, ())), (fewest_mends, ())):
                with self.assertRaises(BadHouse):
                    function(bad, LINE, *rest)
                with self.assertRaises(BadLine):
                    function(AB, bad, *rest)

    def test_too_many_is_behind_all_other_errors(self):
        with self.assertRaises(TooMany):
            fewest_mends(SEVEN, wide(4))
        with self.assertRaises(BadLine):
            fewest_mends(SEVEN, ("plus", wide(4), ()))


if __name__ == "__main__":
    unittest.main()

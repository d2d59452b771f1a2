"""Points 100, 101 and 102, and what point 104 says of them: joined copies, guesses, and what is possible."""

import itertools
import unittest

from manybuilds.copies import _begun, guesses, joined, possible, sure
from manybuilds.errors import BadHouse, BadSetting, BadTold, TooMany
from manybuilds.least import is_ahead, least
from manybuilds.lines import build
from tests.helpers import (
    AB, NO, NONE, ONE, OR, SEVEN, SMALL, STRANGE, YES, assert_judged, dice_of, num, plus, random_house, random_line,
    slow_ahead, slow_build, slow_builds, slow_choices, slow_fewest, slow_first, slow_let, spoiled, when)

THREE = ("house", ("a", "b", "c"), YES)
COPIES = (((), num(2)), (("a", "b"), num(1)))


def cases(seed, many, houses=SMALL):
    """Houses, lines, and some of their builds in any order."""
    dice = dice_of(seed)
    for house in houses + tuple(random_house(dice, dice.randint(1, 3)) for _ in range(8)):
        for _ in range(many):
            line = random_line(dice, house[1], dice.randint(1, 8))
            copies = list(slow_builds(house, line).items())
            dice.shuffle(copies)
            yield house, line, tuple(copies[:dice.randint(0, len(copies))]), dice


def slow_possible(house, copies, setting):
    """The builds for the setting of all lines with the told builds and as few choices as can be, in order."""
    found = []
    for line in slow_fewest(house[1], dict(copies)):
        tree = slow_build(line, setting)
        if tree not in found:
            found.append(tree)
    ordered = []
    for tree in found:
        at = len([other for other in found if slow_ahead(house, other, tree)])
        ordered.append((at, tree))
    return tuple(tree for _, tree in sorted(ordered))


def all_lines(switches, most):
    """All lines of numbers 1 to 3, plus and choices with at most so many choices and seven nodes."""
    def grow(choices, nodes):
        yield from ((num(number), choices, nodes - 1) for number in (1, 2, 3))
        for head in [("plus",)] + [("choice", s) for s in switches]:
            left = choices - (head[0] == "choice")
            if left < 0 or nodes < 3:
                continue
            for one, still, rest in grow(left, nodes - 2):
                for other, last, few in grow(still, rest + 1):
                    yield head + (one, other), last, few
    return {line for line, _, _ in grow(most, 7)}


class TestByHand(unittest.TestCase):
    def test_joined(self):
        self.assertEqual(joined(AB, COPIES), when("a", num(1), num(2)))
        self.assertEqual(joined(AB, COPIES[::-1]), when("a", num(1), num(2)))
        self.assertEqual(joined(AB, ()), num(0))
        self.assertEqual(joined(NONE, ()), num(0))
        self.assertEqual(joined(AB, ((("b",), num(7)),)), num(7))

    def test_guesses(self):
        self.assertEqual(guesses(AB, COPIES), (num(0), num(2), when("a", num(1), num(2))))
        self.assertEqual(guesses(AB, ()), (num(0),))
        self.assertEqual(guesses(NONE, ()), (num(0),))
        self.assertEqual(guesses(AB, COPIES + ((("b",), num(1)),))[3], when("b", num(1), num(2)))

    def test_possible(self):
        self.assertEqual(possible(AB, COPIES, ("b",)), (num(1), num(2)))
        self.assertEqual(possible(AB, COPIES, ("a",)), (num(1), num(2)))
        self.assertEqual(possible(AB, COPIES, ()), (num(2),))
        self.assertEqual(possible(AB, COPIES[:1], ("a",)), (num(2),))

    def test_sure(self):
        self.assertEqual(sure(AB, COPIES), COPIES)
        self.assertEqual(sure(AB, COPIES[::-1]), COPIES)
        self.assertEqual(sure(AB, ()), ())
        self.assertEqual(sure(NONE, ()), ())
        self.assertEqual(sure(OR, COPIES[1:]), tuple((setting, num(1)) for setting in slow_let(OR)))

    def test_possible_goes_on_with_fewest_choices_alone(self):
        # One choice of b parts what is told; with two choices there would be more.
        copies = (((), num(1)), (("a",), num(1)), (("b",), num(2)))
        self.assertEqual(possible(AB, copies, ("a", "b")), (num(2),))
        # The least line needs a; another line with as few choices has other switches, too.
        copies = (((), plus(num(1), num(1))), (("a", "b"), plus(num(2), num(2))))
        self.assertEqual(possible(AB, copies, ("a",)), (plus(num(1), num(1)), plus(num(2), num(2))))


class TestAgainstSlow(unittest.TestCase):
    def test_joined(self):
        for house, _, copies, _ in cases(51, 8):
            self.assertEqual(joined(house, copies), slow_first(house, dict(copies)), (house, copies))

    def test_guesses(self):
        for house, _, copies, _ in cases(52, 8):
            found = guesses(house, copies)
            self.assertEqual(len(found), len(copies) + 1)
            for many, guess in enumerate(found):
                self.assertEqual(guess, joined(house, copies[:many]))
            self.assertEqual(found[-1], slow_first(house, dict(copies)))

    def test_possible(self):
        several = 0
        for house, _, copies, dice in cases(53, 10, SMALL + (THREE,) * 12):
            # Builds of a few forms have more lines with few choices than those of one line.
            if dice.random() < 0.6:
                copies = tuple((setting, plus(num(dice.randint(1, 2)), num(dice.randint(1, 2)))) for setting, _ in copies)
            for setting in slow_let(house) if copies else ():
                expected = slow_possible(house, copies, setting)
                if len(expected) > 60:
                    with self.assertRaises(TooMany):
                        possible(house, copies, setting)
                    continue
                self.assertEqual(possible(house, copies, setting), expected, (house, copies, setting))
                several += len(expected) > 1
        self.assertGreater(several, 30)

    def test_possible_among_all_lines(self):
        """Choices that part nothing are tried here, too."""
        dice = dice_of(54)
        lines = all_lines(AB[1], 2)
        for _ in range(60):
            told = {setting: dice.choice((num(1), num(2), plus(num(1), num(2)))) for setting in slow_let(AB)}
            copies = tuple(dice.sample(sorted(told.items()), dice.randint(1, 3)))
            fit = [line for line in lines if all(slow_build(line, setting) == tree for setting, tree in copies)]
            if not fit:
                continue
            fewest = min(map(slow_choices, fit))
            for setting in told:
                expected = {slow_build(line, setting) for line in fit if slow_choices(line) == fewest}
                self.assertEqual(set(possible(AB, copies, setting)), expected, (copies, setting))

    def test_sure(self):
        told_or_not = [0, 0]
        for house, _, copies, _ in cases(55, 8):
            expected = []
            for setting in slow_let(house) if copies else ():
                found = slow_possible(house, copies, setting)
                if len(found) == 1:
                    expected.append((setting, found[0]))
                    told_or_not[setting in dict(copies)] += 1
            self.assertEqual(sure(house, copies), tuple(expected), (house, copies))
        self.assertGreater(min(told_or_not), 20)


class TestAgainstEachOther(unittest.TestCase):
    def test_learning(self):
        moved = 0
        for house, line, _, dice in cases(56, 6):
            copies = list(slow_builds(house, line).items())
            dice.shuffle(copies)
            found = guesses(house, tuple(copies))
            for guess, following, (setting, tree) in zip(found, found[1:], copies):
                if slow_build(guess, setting) == tree:
                    self.assertEqual(guess, following)
                else:
                    self.assertTrue(is_ahead(house, guess, following))
                    self.assertLessEqual(slow_choices(guess), slow_choices(following))
                    moved += 1
            self.assertEqual(found[-1], least(house, line))
        self.assertGreater(moved, 50)

    def test_told_ones_are_sure(self):
        for house, _, copies, _ in cases(57, 6):
            known = sure(house, copies)
            for pair in copies:
                self.assertIn(pair, known)
                self.assertEqual(possible(house, copies, pair[0]), (pair[1],))
            self.assertEqual([setting for setting, _ in known],
                             [setting for setting in slow_let(house) if setting in dict(known)])
            if len(copies) == len(slow_let(house)):
                self.assertEqual(dict(known), dict(copies))

    def test_the_build_of_joined_is_possible(self):
        for house, _, copies, _ in cases(58, 4):
            for setting in slow_let(house) if copies else ():
                try:
                    self.assertIn(build(house, joined(house, copies), setting), possible(house, copies, setting))
                except TooMany:
                    pass

    def test_the_order_of_copies_does_not_count(self):
        for house, _, copies, dice in cases(59, 3):
            other = tuple(dice.sample(copies, len(copies)))
            self.assertEqual(joined(house, other), joined(house, copies))
            self.assertEqual(sure(house, other), sure(house, copies))


class TestTooMany(unittest.TestCase):
    SETTINGS = ((), ("e", "f"), ("c", "d"), ("c", "d", "e", "f"),
                ("a", "b"), ("a", "b", "e", "f"), ("a", "b", "c", "d"), ("a", "b", "c", "d", "e", "f"))
    SIX = ("house", ("a", "b", "c", "d", "e", "f"), YES)

    def copies(self, shape):
        """What is told of eight settings: at each string of the shape a number that is told for each of them."""
        def tree(part, at):
            if isinstance(part, str):
                return num(int(part[at]))
            return plus(tree(part[0], at), tree(part[1], at))
        return tuple((setting, tree(shape, at)) for at, setting in enumerate(self.SETTINGS))

    def test_sixty_are_not_too_many(self):
        low = (("00010001", ("00000011", "00110011")), (("00001111", "01010101"), ("00010001", "01010101")))
        copies = self.copies(low)
        found = possible(self.SIX, copies, ("a", "c", "e"))
        self.assertEqual(len(found), 60)
        # The same, out of a list of all lines.
        census, task = _begun(self.SIX, copies)
        lines = census.lines_of(task)
        self.assertTrue(all(slow_build(line, setting) == tree for line in lines[:50] for setting, tree in copies))
        self.assertEqual({slow_build(line, ("a", "c", "e")) for line in lines}, set(found))

    def test_more_are(self):
        # Each of six numbers hangs on one of two switches, by itself.
        half = (("00001111", "00110011"), "01010101")
        self.assertEqual(len(possible(self.SIX, self.copies(half), ("a", "c", "e"))), 8)
        copies = self.copies((half, half))
        for setting, many in ((("a", "c", "e"), None), (("a", "c"), 16), (("a", "b"), 1)):
            if many:
                self.assertEqual(len(possible(self.SIX, copies, setting)), many)
                continue
            with self.assertRaises(TooMany) as caught:
                possible(self.SIX, copies, setting)
            self.assertEqual(caught.exception.most, 60)

    def test_without_copies(self):
        for house in (ONE, AB, OR):
            for setting in slow_let(house):
                with self.assertRaises(TooMany) as caught:
                    possible(house, (), setting)
                self.assertEqual(caught.exception.most, 60)


class TestSevenSwitches(unittest.TestCase):
    def test_few_and_many_copies(self):
        switches = SEVEN[1]
        line = num(0)
        for at, s in enumerate(switches):
            line = plus(when(s, num(at), num(9)), line)
        copies = tuple((setting, slow_build(line, setting)) for setting in slow_let(SEVEN))
        self.assertEqual(joined(SEVEN, copies), line)
        self.assertEqual(sure(SEVEN, copies), copies)
        singles = tuple(pair for pair in copies if len(pair[0]) < 2)
        self.assertEqual(joined(SEVEN, singles), line)
        self.assertEqual(guesses(SEVEN, singles)[-1], line)
        self.assertLessEqual(set(singles), set(sure(SEVEN, singles)))


class TestRefused(unittest.TestCase):
    def test_errors_in_their_order(self):
        for function in (joined, guesses, sure):
            assert_judged(self, function, (AB, COPIES), (0, (), BadHouse), (1, [], BadTold))
        assert_judged(self, possible, (AB, COPIES, ()), (0, (), BadHouse), (1, [], BadTold), (2, [], BadSetting))

    def test_what_is_no_copies(self):
        wrong = [thing for thing in STRANGE if thing != ()] + list(spoiled(COPIES))
        wrong += [COPIES + COPIES[:1], COPIES + (((), num(3)),), ((("c",), num(1)),), ((("b", "a"), num(1)),),
                  (((), when("a", num(1), num(2))),), (((), num(1), num(1)),), (((),),), (((), num(True)),)]
        for thing in wrong:
            for function in (joined, guesses, sure):
                with self.assertRaises(BadTold):
                    function(AB, thing)
            with self.assertRaises(BadTold):
                possible(AB, thing, ())

    def test_settings_that_are_not_let(self):
        for function in (joined, guesses, sure):
            with self.assertRaises(BadTold):
                function(OR, (((), num(1)),))
        for bad in ((), ["a"], ("b", "a"), ("c",), "a", None, ("a", "a")):
            for copies in (COPIES[1:], ()):
                with self.assertRaises(BadSetting):
                    possible(OR, copies, bad)
        with self.assertRaises(BadSetting):
            possible(("house", ("a",), NO), (), ())

    def test_what_is_passed_stays(self):
        copies = tuple(itertools.islice(COPIES, 2))
        guesses(AB, copies)
        self.assertEqual(copies, COPIES)


if __name__ == "__main__":
    unittest.main()

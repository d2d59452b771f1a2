"""Point 74, and what point 76 says of it: asking trees."""

import unittest

from manybuilds.askings import asking, is_asking, least_askings
from manybuilds.books import shows
from manybuilds.errors import BadHouse, BadLine
from manybuilds.running import run
from tests.helpers import (
    AB, HOUSES, NONE, ODD, ONE, OR, SEVEN, STRANGE, YES, assert_judged, num, plus, slow_build, slow_let, spoiled, when)
from tests.test_books import LINE, lines, show
from tests.test_ties import FALSE, TRUE, X

SHOWN = {("b",): ((2, 1), ("ends", 1)), ("a",): ((1,), ("ends", 0)), ("a", "b"): ((1, 1), ("ends", 1))}
TREE = ("ask", "a", ("ask", "b", ("tells", SHOWN["a", "b"]), ("tells", SHOWN["a",])), ("tells", SHOWN["b",]))


def results(house, line):
    return {setting: run(slow_build(line, setting)) for setting in slow_let(house)}


def parted(settings, s):
    return [[setting for setting in settings if s in setting], [setting for setting in settings if s not in setting]]


def slow_depth(switches, known, settings):
    """The least depth of a tree for the settings: all switches are tried."""
    if len({known[setting] for setting in settings}) == 1:
        return 0
    depths = []
    for s in switches:
        on, off = parted(settings, s)
        if on and off:
            depths.append(1 + max(slow_depth(switches, known, on), slow_depth(switches, known, off)))
    return min(depths)


def slow_asking(switches, known, settings):
    """The tree that asks for the first switch with which it has the least depth."""
    depth = slow_depth(switches, known, settings)
    if depth == 0:
        return ("tells", known[settings[0]])
    for s in switches:
        on, off = parted(settings, s)
        if on and off and 1 + max(slow_depth(switches, known, on), slow_depth(switches, known, off)) == depth:
            return ("ask", s, slow_asking(switches, known, on), slow_asking(switches, known, off))
    return None


def slow_trees(switches, known, settings, most):
    """All asking trees of at most this depth for the settings."""
    found = []
    if len({known[setting] for setting in settings}) == 1:
        found.append(("tells", known[settings[0]]))
    for s in switches if most else ():
        on, off = parted(settings, s)
        if on and off:
            for one in slow_trees(switches, known, on, most - 1):
                found += [("ask", s, one, other) for other in slow_trees(switches, known, off, most - 1)]
    return found


def depth_of(tree):
    return 0 if tree[0] == "tells" else 1 + max(depth_of(tree[2]), depth_of(tree[3]))


class TestAsking(unittest.TestCase):
    def test_example(self):
        self.assertEqual(least_askings(OR, LINE), 2)
        self.assertEqual(asking(OR, LINE), TREE)
        self.assertIs(is_asking(OR, LINE, TREE), True)

    def test_by_hand(self):
        told = [("tells", ((), ("ends", n))) for n in range(3)]
        self.assertEqual((least_askings(NONE, LINE), asking(NONE, LINE)), (None, None))
        self.assertEqual((least_askings(AB, num(2)), asking(AB, num(2))), (0, told[2]))
        self.assertEqual((least_askings(AB, when("a", num(1), num(1))), asking(AB, when("a", num(1), num(1)))), (0, told[1]))
        line = when("b", num(1), num(2))
        self.assertEqual((least_askings(AB, line), asking(AB, line)), (1, ("ask", "b", told[1], told[2])))
        # The rule settles b.
        self.assertEqual(asking(("house", ("a", "b"), ("is", "b")), line), told[1])
        # The first switch with the least depth, not one that must be asked anyway.
        house = ("house", ("a", "b"), ("split", "a", ("is", "b"), ("not", ("is", "b"))))
        self.assertEqual(asking(house, line), ("ask", "a", told[1], told[2]))
        both = when("a", line, num(0))
        self.assertEqual(asking(AB, both), ("ask", "a", ("ask", "b", told[1], told[2]), told[0]))
        self.assertEqual(asking(AB, when("b", when("a", num(1), num(2)), num(0))), (
            "ask", "a", ("ask", "b", told[1], told[0]), ("ask", "b", told[2], told[0])))

    def test_fewer_askings_than_what_is_felt(self):
        # c tells which of a and b to ask for.
        house = ("house", ("a", "b", "c"), YES)
        line = when("c", when("a", num(1), num(2)), when("b", num(1), num(2)))
        self.assertEqual(least_askings(house, line), 2)
        self.assertEqual(asking(house, line)[:2], ("ask", "c"))
        line = when("a", when("c", num(1), num(2)), when("a", num(1), when("c", num(1), num(2))))
        self.assertEqual(least_askings(house, line), 1)

    def test_against_slow(self):
        seen = {}
        for house, line, _ in lines(741, 12):
            known = results(house, line)
            depth = least_askings(house, line)
            if not known:
                self.assertEqual((depth, asking(house, line)), (None, None))
                continue
            self.assertEqual(depth, slow_depth(house[1], known, list(known)))
            tree = asking(house, line)
            self.assertEqual(tree, slow_asking(house[1], known, list(known)))
            self.assertEqual(depth_of(tree), depth)
            self.assertIs(is_asking(house, line, tree), True)
            seen[depth] = seen.get(depth, 0) + 1
        self.assertGreater(min(seen[depth] for depth in (0, 1, 2)), 5, seen)

    def test_no_tree_of_a_lesser_depth(self):
        for house, line, _ in lines(742, 6):
            known = results(house, line)
            depth = least_askings(house, line)
            if known and depth <= 2:
                self.assertEqual(slow_trees(house[1], known, list(known), depth - 1) if depth else [], [])
                for tree in slow_trees(house[1], known, list(known), min(depth + 1, 2)):
                    self.assertIs(is_asking(house, line, tree), True)

    def test_seven_switches(self):
        line = num(0)
        for s in SEVEN[1][:6]:
            line = plus(line, when(s, num(1), num(0)))
        self.assertEqual(least_askings(SEVEN, line), 6)
        self.assertIs(is_asking(SEVEN, line, asking(SEVEN, line)), True)

    def test_wrong_values(self):
        for bad in STRANGE + (when("c", num(1), num(2)), list(LINE)):
            for function in (asking, least_askings):
                assert_judged(self, function, [OR, LINE], (0, OR[:2], BadHouse), (1, bad, BadLine))
            assert_judged(self, is_asking, [OR, LINE, TREE], (0, OR[:2], BadHouse), (1, bad, BadLine))


class TestIsAsking(unittest.TestCase):
    def test_trees(self):
        told = {setting: ("tells", result) for setting, result in SHOWN.items()}
        other = ("ask", "b", ("ask", "a", told["a", "b"], told["b",]), told["a",])
        self.assertIs(is_asking(OR, LINE, other), True)
        for wrong in (
                ("ask", "b", ("ask", "a", told["b",], told["a", "b"]), told["a",]),
                ("ask", "a", ("ask", "b", told["a", "b"], told["a",]), ("ask", "b", told["b",], told["b",])),
                ("ask", "a", ("ask", "a", told["a", "b"], told["a",]), told["b",]),
                ("ask", "a", told["a", "b"], told["b",]), told["b",], TREE + TREE[3:], TREE[:3], ("ask", "c") + TREE[2:],
                ("asks",) + TREE[1:], ("tell", SHOWN["b",]), ("tells",), ("tells", SHOWN["b",], ()), ("feels",) + TREE[1:]):
            self.assertIs(is_asking(OR, LINE, wrong), False, wrong)

    def test_any_value(self):
        for wrong in STRANGE + tuple(spoiled(TREE)):
            self.assertIs(is_asking(OR, LINE, wrong), False, wrong)
        line = show(when("a", ("less", num(0), num(1)), FALSE))
        tree = ("ask", "a", ("tells", (("yes",), ("ends", "yes"))), ("tells", (("no",), ("ends", "no"))))
        self.assertIs(is_asking(AB, line, tree), True)
        for wrong in spoiled(tree):
            self.assertIs(is_asking(AB, line, wrong), False, wrong)

    def test_true_is_no_number(self):
        for number, wrong in ((1, True), (0, False)):
            line = show(num(number))
            self.assertIs(is_asking(AB, line, ("tells", ((number,), ("ends", number)))), True)
            for events, end in (((wrong,), number), ((number,), wrong), ([number], number), ((number, number), number)):
                self.assertIs(is_asking(AB, line, ("tells", (events, ("ends", end)))), False)

    def test_trees_of_one_result(self):
        line = show(TRUE)
        told = ("tells", (("yes",), ("ends", "yes")))
        self.assertIs(is_asking(AB, line, told), True)
        for wrong in ((), ("tells",), told + ((),), told + told, ("tell",) + told[1:], ("ask",) + told[1:], (told,), (None,) + told[1:],
                      ("tells", (("yes",), ("ends", "no"))), ("tells", (("no",), ("ends", "yes"))), ("tells", (("yes",), ("stuck",))),
                      ("tells", (("yes", "yes"), ("ends", "yes"))), ("tells", ((), ("ends", "yes"))), ("tells", None), ("tells", ()),
                      ("ends",) + told[1:], ("tells", (("yes",), ("ends", "yes"), ())), ("tells", (("yes",),))):
            self.assertIs(is_asking(AB, line, wrong), False, wrong)

    def test_more_than_need_be_is_still_a_tree(self):
        told = ("tells", ((), ("ends", 3)))
        for tree in (told, ("ask", "a", told, told), ("ask", "b", told, ("ask", "a", told, told))):
            self.assertIs(is_asking(AB, num(3), tree), True)
        # But no switch is asked for that is settled.
        for tree in (("ask", "a", told, told), ("ask", "b", told, told)):
            self.assertIs(is_asking(("house", ("a", "b"), ("is", "b")), num(3), tree), tree[1] == "a")
        self.assertIs(is_asking(OR, num(3), ("ask", "a", ("ask", "b", told, told), told)), True)
        self.assertIs(is_asking(OR, num(3), ("ask", "a", told, ("ask", "b", told, told))), False)

    def test_stuck_ones(self):
        self.assertIs(is_asking(ONE, X, ("tells", ((), ("stuck",)))), True)
        self.assertIs(is_asking(ONE, X, ("tells", ((), ("ends", "stuck")))), False)
        self.assertIs(is_asking(ONE, when("a", X, TRUE), ("ask", "a", ("tells", ((), ("stuck",))), ("tells", ((), ("ends", "yes"))))),
                      True)

    def test_a_house_that_lets_none(self):
        for thing in (None, ("tells", ((), ("ends", 3))), TREE, ()):
            self.assertIs(is_asking(NONE, num(3), thing), False)

    def test_results_are_those_of_shows(self):
        for house in HOUSES + (ODD,):
            line = when(house[1][0], show(num(1)), TRUE)
            row = shows(house, line)
            for result, _ in row:
                self.assertIs(is_asking(house, line, ("tells", result)), len(row) == 1)


if __name__ == "__main__":
    unittest.main()

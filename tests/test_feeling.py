"""Point 73, and what point 76 says of felt: switches that are felt when all builds are run at once."""

import unittest

from manybuilds.books import book, shows
from manybuilds.cubes import reasons
from manybuilds.errors import BadHouse, BadLine, BadSetting
from manybuilds.feeling import felt, felt_by
from manybuilds.running import run
from tests.helpers import (
    AB, NONE, ODD, ONE, OR, SEVEN, STRANGE, YES, assert_judged, num, plus, slow_build, slow_holds, slow_label, slow_let,
    slow_parts, when)
from tests.test_books import LINE, lines, show
from tests.test_cubes import lies_in
from tests.test_ties import FALSE, TRUE, X


def marked(line, switches):
    """The line in which nothing is shown but, for each choice that is reached, where its switch stands in the list."""
    if line[0] == "show":
        return marked(line[1], switches)
    parts = tuple(marked(part, switches) for part in slow_parts(line))
    if line[0] != "choice":
        return slow_label(line) + parts
    return ("then", show(num(switches.index(line[1]))), slow_label(line) + parts)


def slow_felt(house, line, settings):
    """The felt tree of these settings, which are those of a cube."""
    reached, _ = run(slow_build(marked(line, house[1]), settings[0]))
    for at in reached:
        s = house[1][at]
        on, off = [setting for setting in settings if s in setting], [setting for setting in settings if s not in setting]
        if on and off:
            return ("feels", s, slow_felt(house, line, on), slow_felt(house, line, off))
    return ("ends", run(slow_build(line, settings[0])))


def ends_of(tree, settings):
    """The ends of a felt tree, each with the settings that come to it and the switches that were felt ahead of it."""
    if tree[0] == "ends":
        return [(tree[1], settings, [])]
    _, s, on, off = tree
    sides = ((on, [setting for setting in settings if s in setting]), (off, [setting for setting in settings if s not in setting]))
    return [(result, lot, [s] + ahead) for side, inner in sides for result, lot, ahead in ends_of(side, inner)]


class TestFelt(unittest.TestCase):
    def test_example(self):
        self.assertEqual(felt(OR, LINE), ("feels", "a", (
            "feels", "b", ("ends", ((1, 1), ("ends", 1))), ("ends", ((1,), ("ends", 0)))), ("ends", ((2, 1), ("ends", 1)))))

    def test_by_hand(self):
        one, two = ("ends", ((), ("ends", 1))), ("ends", ((), ("ends", 2)))
        self.assertIsNone(felt(NONE, LINE))
        self.assertEqual(felt(AB, num(1)), one)
        # A switch that is felt parts, even if the same is shown.
        self.assertEqual(felt(AB, when("b", num(1), num(1))), ("feels", "b", one, one))
        # What is not reached is not felt.
        self.assertEqual(felt(AB, ("if", TRUE, num(1), when("a", num(1), num(2)))), one)
        self.assertEqual(felt(AB, ("then", X, when("a", num(1), num(2)))), ("ends", ((), ("stuck",))))
        self.assertEqual(felt(AB, when("a", when("a", num(1), num(2)), num(2))), ("feels", "a", one, two))
        # Settled by the rule of the house, or by what was felt and the rule.
        self.assertEqual(felt(("house", ("a", "b"), ("is", "b")), when("b", num(1), num(2))), one)
        other = when("a", when("b", num(1), num(2)), when("b", num(1), num(2)))
        self.assertEqual(felt(OR, other), ("feels", "a", ("feels", "b", one, two), one))

    def test_in_the_order_of_the_run(self):
        three = [("ends", ((), ("ends", n))) for n in (5, 4, 3, 2)]
        line = plus(when("b", num(3), num(2)), when("a", num(2), num(0)))
        self.assertEqual(felt(AB, line), ("feels", "b", ("feels", "a", three[0], three[2]), ("feels", "a", three[1], three[3])))
        line = ("let", "x", when("b", num(3), num(2)), plus(X, when("a", num(2), num(0))))
        self.assertEqual(felt(AB, line), ("feels", "b", ("feels", "a", three[0], three[2]), ("feels", "a", three[1], three[3])))

    def test_against_slow(self):
        deep = 0
        for house, line, _ in lines(731, 15):
            let = slow_let(house)
            found = felt(house, line)
            self.assertEqual(found, slow_felt(house, line, let) if let else None, (house, line))
            deep += found is not None and found[0] == "feels" and "feels" in (found[2][0], found[3][0])
        self.assertGreater(deep, 25)

    def test_each_setting_comes_to_its_own_result(self):
        for house, line, _ in lines(732, 6):
            let = slow_let(house)
            rows = book(house, line)
            for result, settings, _ in ends_of(felt(house, line), let) if let else ():
                for setting in settings:
                    self.assertEqual(run(slow_build(line, setting)), result)
                # All that come to one end have the same run, node by node.
                for _, row in rows:
                    worths = [[worth for worth, condition in row if slow_holds(condition, setting)] for setting in settings]
                    self.assertEqual(worths.count(worths[0]), len(worths))

    def test_wrong_values(self):
        for bad in STRANGE + (when("c", num(1), num(2)), list(LINE)):
            assert_judged(self, felt, [OR, LINE], (0, OR[:2], BadHouse), (1, bad, BadLine))


class TestFeltBy(unittest.TestCase):
    def test_example(self):
        self.assertEqual(felt_by(OR, LINE, ("b",)), ((), ("a",)))
        self.assertEqual(felt_by(OR, LINE, ("a",)), (("a",), ("b",)))
        self.assertEqual(felt_by(OR, LINE, ("a", "b")), (("a", "b"), ()))

    def test_order_of_the_house(self):
        line = plus(when("c", num(1), num(2)), plus(when("b", num(1), num(2)), when("a", num(1), num(2))))
        house = ("house", ("a", "b", "c"), YES)
        self.assertEqual(felt_by(house, line, ("a", "c")), (("a", "c"), ("b",)))
        self.assertEqual(felt_by(house, line, ("a", "b", "c")), (("a", "b", "c"), ()))
        self.assertEqual(felt_by(house, num(1), ("a",)), ((), ()))

    def test_against_the_felt_tree(self):
        for house, line, _ in lines(733, 8):
            let = slow_let(house)
            for _, settings, ahead in ends_of(felt(house, line), let) if let else ():
                for setting in settings:
                    on = tuple(s for s in house[1] if s in ahead and s in setting)
                    off = tuple(s for s in house[1] if s in ahead and s not in setting)
                    self.assertEqual(felt_by(house, line, setting), (on, off))

    def test_it_holds_a_reason_for_the_condition_of_its_result(self):
        for house, line, _ in lines(734, 6):
            for result, condition in shows(house, line):
                known = reasons(house, condition)
                for setting in slow_let(house):
                    if slow_holds(condition, setting):
                        on, off = felt_by(house, line, setting)
                        self.assertTrue(lies_in(setting, (on, off)))
                        self.assertTrue(any(set(one) <= set(on) and set(other) <= set(off) for one, other in known))

    def test_seven_switches(self):
        line = num(0)
        for s in SEVEN[1]:
            line = plus(line, when(s, num(1), num(0)))
        for setting in slow_let(SEVEN)[::9]:
            self.assertEqual(felt_by(SEVEN, line, setting), (setting, tuple(s for s in SEVEN[1] if s not in setting)))

    def test_wrong_values(self):
        for bad in STRANGE + (("b", "a"), ["a"], ("c",)):
            if bad == ():
                continue
            assert_judged(self, felt_by, [OR, LINE, ("a",)], (0, OR[:2], BadHouse), (1, FALSE + FALSE, BadLine),
                          (2, bad, BadSetting))
        # Settings that are not let.
        assert_judged(self, felt_by, [OR, LINE, ("a",)], (2, (), BadSetting))
        assert_judged(self, felt_by, [ODD, num(1), ("a",)], (2, ("a", "b"), BadSetting))
        with self.assertRaises(BadSetting):
            felt_by(NONE, num(1), ())
        self.assertEqual(felt_by(ONE, num(1), ()), ((), ()))


if __name__ == "__main__":
    unittest.main()

"""Point 64, and what point 65 says of it: linked builds and linked lines."""

import unittest

from manybuilds.errors import BadHouse, BadParts, BadSetting, NotGiven, NotRight, TooMany
from manybuilds.lines import build, is_expression, is_line
from manybuilds.linking import linked, linked_build
from manybuilds.running import run
from manybuilds.ties import free, good_where
from tests.helpers import (
    AB, HOUSES, NONE, ONE, OR, SEVEN, STRANGE, YES, assert_judged, dice_of, num, plus, random_house, slow_all, slow_let,
    slow_nodes, when)
from tests.slow_parts import Standing, random_parts, slow_linked, slow_right
from tests.test_forks import A, NOT_A
from tests.test_parts import EXAMPLE, GIVER, SHORT, W, X, Y, give, keep, part
from tests.test_ties import TRUE


def chain_of(many, line):
    """Rows each of which has a line of what the one behind it is, in parts of 60."""
    letters = "abcdefghij"
    names = ["x" + letters[at // 100] + letters[at // 10 % 10] + letters[at % 10] for at in range(many + 1)]
    rows = [give(one, line(("name", other))) for one, other in zip(names, names[1:])] + [give(names[-1], num(1))]
    return tuple(("part", tuple(rows[at:at + 60])) for at in range(0, len(rows), 60)), names[0]


class TestLinkedBuild(unittest.TestCase):
    def test_example(self):
        self.assertEqual(linked_build(ONE, (EXAMPLE, GIVER), (), "x"), plus(num(2), num(1)))
        self.assertEqual(linked_build(ONE, (GIVER, EXAMPLE), (), "y"), num(2))

    def test_by_hand(self):
        lets = ("let", "y", Y, plus(Y, ("let", "x", W, ("set", "x", plus(X, Y)))))
        parts = (part(give("x", lets)), part(give("y", num(5)), give("w", when("a", Y, num(7)))))
        self.assertEqual(linked_build(ONE, parts, ("a",), "x"),
                         ("let", "y", num(5), plus(Y, ("let", "x", num(5), ("set", "x", plus(X, Y))))))
        self.assertEqual(linked_build(ONE, parts, (), "w"), num(7))
        # A kept name is found ahead of a given one.
        parts = (part(give("x", Y), keep("y", num(1), A)), part(give("y", num(2))))
        self.assertEqual(linked_build(ONE, parts, ("a",), "x"), num(1))
        self.assertEqual(linked_build(ONE, parts, (), "x"), num(2))
        # The row of another part finds its own names.
        parts = (part(give("x", Y), keep("k", num(1))), part(give("y", ("name", "k")), keep("k", TRUE)))
        self.assertEqual(linked_build(ONE, parts, (), "x"), TRUE)

    def test_the_one_way_and_the_other(self):
        parts = (part(give("x", when("a", plus(Y, num(1)), num(2)))), part(give("y", when("a", num(3), plus(X, num(4))))))
        self.assertEqual(linked_build(ONE, parts, ("a",), "x"), plus(num(3), num(1)))
        self.assertEqual(linked_build(ONE, parts, (), "y"), plus(num(2), num(4)))

    def test_not_right_ahead_of_not_given(self):
        for setting in ((), ("a",)):
            with self.assertRaises(NotGiven):
                linked_build(ONE, (GIVER,), setting, "x")
            with self.assertRaises(NotRight):
                linked_build(ONE, (GIVER, GIVER), setting, "x")
        with self.assertRaises(NotRight):
            linked_build(ONE, (EXAMPLE, GIVER), ("a",), "x")
        with self.assertRaises(NotRight):
            linked_build(OR, (GIVER,), (), "y")
        with self.assertRaises(NotRight):
            linked_build(NONE, (GIVER,), (), "y")
        # Names that are kept, or given in other settings alone.
        with self.assertRaises(NotGiven):
            linked_build(ONE, (part(keep("x", num(1))),), (), "x")
        with self.assertRaises(NotGiven):
            linked_build(ONE, (part(give("x", num(1), A)),), (), "x")
        self.assertEqual(linked_build(ONE, (part(give("x", num(1), A)),), ("a",), "x"), num(1))
        for thing in STRANGE + (X, "X", "number", "truth"):
            with self.assertRaises(NotGiven):
                linked_build(ONE, (EXAMPLE, GIVER), (), thing)
        with self.assertRaises(NotGiven):
            linked_build(ONE, (), (), "x")

    def test_too_many(self):
        parts, first = chain_of(149, lambda name: plus(name, num(1)))
        self.assertEqual(len(slow_nodes(linked_build(ONE, parts, (), first))), 299)
        parts, first = chain_of(150, lambda name: plus(name, num(1)))
        with self.assertRaises(TooMany) as caught:
            linked_build(ONE, parts, (), first)
        self.assertEqual(caught.exception.most, 300)
        with self.assertRaises(TooMany) as caught:
            linked(ONE, parts, first)
        self.assertEqual(caught.exception.most, 300)
        # Behind all other errors.
        with self.assertRaises(NotGiven):
            linked_build(ONE, parts, (), "x")
        with self.assertRaises(NotRight):
            linked_build(ONE, parts + (GIVER, GIVER), (), first)
        # Twice as many with each row.
        parts, first = chain_of(400, lambda name: plus(name, name))
        with self.assertRaises(TooMany):
            linked_build(ONE, parts, (), first)

    def test_as_deep_as_it_has_nodes(self):
        parts, first = chain_of(299, lambda name: ("show", name))
        tree = linked_build(ONE, parts, (), first)
        self.assertEqual(run(tree), ((1,) * 299, ("ends", 1)))
        self.assertEqual(build(ONE, linked(ONE, parts, first), ("a",)), tree)
        parts, first = chain_of(99, lambda name: ("if", TRUE, name, num(1)))
        self.assertEqual(run(linked(ONE, parts, first)), ((), ("ends", 1)))
        parts, first = chain_of(100, lambda name: ("if", TRUE, name, num(1)))
        with self.assertRaises(TooMany):
            linked(ONE, parts, first)

    def test_against_slow(self):
        dice = dice_of(641)
        many = 0
        for house in HOUSES + tuple(random_house(dice, dice.randint(1, 3)) for _ in range(10)):
            for _ in range(30):
                parts = random_parts(dice, house, dice.randint(1, 3), size=6)
                many += self.assert_linked(house, parts)
        self.assertGreater(many, 100)

    def assert_linked(self, house, parts):
        """Linked builds of all names are those that are found step by step; how many there are."""
        right = slow_right(house, parts)
        given = {}
        for setting in slow_all(house):
            rows = Standing(parts, setting).rows if setting in right else []
            for x in "xyuvwk":
                found = [row for row in rows if row[1:3] == ("give", x)]
                if setting not in right:
                    with self.assertRaises(NotRight):
                        linked_build(house, parts, setting, x)
                elif not found:
                    with self.assertRaises(NotGiven):
                        linked_build(house, parts, setting, x)
                else:
                    tree = linked_build(house, parts, setting, x)
                    self.assertEqual(tree, slow_linked(parts, setting, found[0][0], found[0][3]))
                    self.assert_sound(house, tree)
                    given.setdefault(x, {})[setting] = tree
        for x in "xyuvwk":
            if x not in given:
                with self.assertRaises(NotGiven):
                    linked(house, parts, x)
                continue
            line = linked(house, parts, x)
            self.assertIs(is_line(house, line), True)
            for setting, tree in given[x].items():
                self.assertEqual(build(house, line, setting), tree)
        return sum(len(trees) for trees in given.values())

    def assert_sound(self, house, tree):
        """A linked build has no free reads, is good, and is never stuck."""
        self.assertIs(is_expression(tree), True)
        self.assertEqual(free(AB, tree), ())
        self.assertEqual(good_where(AB, tree), YES)
        self.assertEqual(run(tree)[1][0], "ends")

    def test_wrong_values(self):
        for bad in (None, [], ("b",), ("a", "a"), "a", YES):
            assert_judged(self, linked_build, [ONE, (SHORT, GIVER), ("a",), "x"], (0, 1, BadHouse), (1, [GIVER], BadParts),
                          (2, bad, BadSetting), (3, "u", NotGiven))


class TestLinked(unittest.TestCase):
    def test_by_hand(self):
        self.assertEqual(build(ONE, linked(ONE, (EXAMPLE, GIVER), "x"), ()), plus(num(2), num(1)))
        self.assertEqual(linked(ONE, (SHORT, GIVER), "x"), plus(num(2), num(1)))
        line = linked(ONE, (part(give("x", Y)), part(give("y", num(1), A)), part(give("y", num(2), NOT_A))), "x")
        self.assertEqual([build(ONE, line, setting) for setting in ((), ("a",))], [num(2), num(1)])

    def test_given_in_right_settings_alone(self):
        wrong = part(keep("k", plus(TRUE, num(1)), A))
        with self.assertRaises(NotGiven):
            linked(ONE, (part(give("x", num(1), A)), wrong), "x")
        self.assertEqual(build(ONE, linked(ONE, (part(give("x", num(1))), wrong), "x"), ()), num(1))
        # What would be too many in a setting that is not right does not count.
        parts, first = chain_of(150, lambda name: when("a", plus(name, num(1)), num(2)))
        self.assertEqual(build(ONE, linked(ONE, parts + (wrong,), first), ()), num(2))
        with self.assertRaises(TooMany):
            linked(ONE, parts, first)

    def test_not_given(self):
        for house in (ONE, NONE):
            for thing in STRANGE + ("x", "k"):
                with self.assertRaises(NotGiven):
                    linked(house, (GIVER, part(keep("k", num(1)))), thing)
        with self.assertRaises(NotGiven):
            linked(NONE, (GIVER,), "y")
        with self.assertRaises(NotGiven):
            linked(ONE, (), "y")

    def test_seven_switches(self):
        rows = [give("x" + s, when(s, plus(num(at), ("name", "y")), ("name", "y"))) for at, s in enumerate(SEVEN[1])]
        parts = (("part", tuple(rows)), part(give("y", when("a", num(8), num(9)))),
                 part(give("x", plus(plus(("name", "xg"), ("name", "xf")), plus(("name", "xb"), ("name", "xa"))))))
        line = linked(SEVEN, parts, "x")
        for setting in slow_let(SEVEN):
            self.assertEqual(build(SEVEN, line, setting), linked_build(SEVEN, parts, setting, "x"))

    def test_wrong_values(self):
        for bad in (None, [GIVER], GIVER, (GIVER, ())):
            assert_judged(self, linked, [ONE, (SHORT, GIVER), "x"], (0, 1, BadHouse), (1, bad, BadParts), (2, "u", NotGiven))


if __name__ == "__main__":
    unittest.main()

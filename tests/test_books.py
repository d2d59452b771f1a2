"""Points 70, 71 and 72, and what point 76 says of shows: what is worked out where, and what is shown."""

import unittest

from manybuilds.books import book, shows, shows_where
from manybuilds.errors import BadHouse, BadLine
from manybuilds.running import run
from tests.helpers import (
    AB, HOUSES, NO, NONE, ONE, OR, SEVEN, STRANGE, YES, assert_judged, assert_told, dice_of, num, plus, random_house,
    random_line, slow_build, slow_holds, slow_let, slow_paths, spoiled, when)
from tests.test_forks import A, B, NOT_A
from tests.test_ties import FALSE, TRUE, X, Y, slow_at, slow_binder, typed_line

# The line of point 76, in the house of point 34.
LINE = ("then", ("show", when("a", num(1), num(2))), ("if", when("b", TRUE, FALSE), ("show", num(1)), num(0)))
ONLY_A, ONLY_B = ("split", "a", ("split", "b", NO, YES), NO), ("split", "a", NO, ("split", "b", YES, NO))
BOTH = ("split", "a", ("split", "b", YES, NO), NO)


def show(line):
    return ("show", line)


class Local:
    """The worths of one setting by the rules of point 71: each node knows just those that end ahead of it."""

    def __init__(self, line, setting):
        self.line = line
        self.setting = setting
        self.worths = {}
        self.read((), line)

    def read(self, path, node):
        worth = self.worth(path, node)
        if worth is not None:
            self.worths[path] = worth
        return worth

    def part(self, path, node, index):
        return self.read(path + (index,), node[index])

    def worth(self, path, node):
        tag = node[0]
        if tag in ("number", "truth"):
            return node[1]
        if tag == "choice":
            return self.part(path, node, 2 if node[1] in self.setting else 3)
        if tag == "show":
            return self.part(path, node, 1)
        if tag == "name":
            return self.last(path)
        if tag == "set":
            worth = self.part(path, node, 2)
            return worth if slow_binder(self.line, path)[:1] != ("name",) else None
        if tag == "if":
            truth = self.part(path, node, 1)
            return self.part(path, node, 2 if truth == "yes" else 3) if truth in ("yes", "no") else None
        one = self.part(path, node, len(node) - 2)
        other = self.part(path, node, len(node) - 1) if one is not None else None
        if tag in ("plus", "less"):
            if not isinstance(one, int) or not isinstance(other, int):
                return None
            return one + other if tag == "plus" else "yes" if one < other else "no"
        return other

    def last(self, path):
        """The worth of the one that ends last of the let's first part and of the sets ahead, for a name."""
        binder = slow_binder(self.line, path)
        if binder[:1] == ("name",):
            return None
        ends = [binder]
        for other, node in slow_paths(self.line).items():
            if node[:2] == ("set", slow_at(self.line, path)[1]) and other < path and other != path[:len(other)]:
                if slow_binder(self.line, other) == binder and other in self.worths:
                    ends.append(other)
        # What is around another one ends behind it.
        return self.worths.get(max(ends, key=lambda other: other + (9,)))


def slow_row(house, things):
    """The row of things by setting."""
    row = {}
    for setting in slow_let(house):
        if setting in things:
            row.setdefault(things[setting], []).append(setting)
    return list(row.items())


def assert_row(case, house, row, things):
    expected = slow_row(house, things)
    case.assertEqual([thing for thing, _ in row], [thing for thing, _ in expected])
    for (thing, condition), (other, held) in zip(row, expected):
        case.assertIs(type(thing), type(other))
        assert_told(case, house, condition, held)


def built_path(line, path, setting):
    """The path in the build of what is made of the node, or None if it is not in it."""
    built = ()
    for size, index in enumerate(path):
        node = slow_at(line, path[:size])
        if node[0] != "choice":
            built += (index,)
        elif (node[1] in setting) != (index == 2):
            return None
    return built


def shown_at(tree, path):
    """The expression with a show of the node at the path."""
    if not path:
        return show(tree)
    return tree[:path[0]] + (shown_at(tree[path[0]], path[1:]),) + tree[path[0] + 1:]


def lines(seed, many, size=18):
    """Houses with lines of all kinds, most of them within lets of the names."""
    dice = dice_of(seed)
    for house in HOUSES + tuple(random_house(dice, dice.randint(1, 4)) for _ in range(8)):
        for _ in range(many):
            line = dice.choice((
                random_line(dice, house[1], dice.randint(1, size)),
                typed_line(dice, house[1], dice.randint(1, 2 * size), wrong=dice.choice((0, 0.05, 0.2)))))
            if dice.random() < 0.8:
                line = ("let", "x", num(1), ("let", "y", when(house[1][0], TRUE, num(2)), line))
            yield house, line, dice


class TestBook(unittest.TestCase):
    def test_example(self):
        found = book(OR, LINE)
        self.assertEqual([path for path, _ in found], [
            (), (1,), (1, 1), (1, 1, 2), (1, 1, 3), (2,), (2, 1), (2, 1, 2), (2, 1, 3), (2, 2), (2, 2, 1), (2, 3)])
        rows = dict(found)
        self.assertEqual(rows[()], ((1, ("split", "b", YES, NO)), (0, ONLY_A)))
        self.assertEqual(rows[(1,)], ((2, ONLY_B), (1, A)))
        self.assertEqual(rows[(1, 1, 2)], ((1, A),))
        self.assertEqual(rows[(2, 3)], ((0, ONLY_A),))

    def test_each_kind_of_node(self):
        for line, rows in (
                (num(5), {(): ((5, YES),)}), (X, {(): ()}), (("set", "x", num(1)), {(): (), (2,): ((1, YES),)}),
                (plus(num(1), TRUE), {(): (), (1,): ((1, YES),), (2,): (("yes", YES),)}),
                (plus(X, num(1)), {(): (), (1,): (), (2,): ()}),
                (("less", num(1), num(2)), {(): (("yes", YES),), (1,): ((1, YES),), (2,): ((2, YES),)}),
                (("if", num(1), num(2), num(3)), {(): (), (1,): ((1, YES),), (2,): (), (3,): ()}),
                (("if", FALSE, num(2), num(3)), {(): ((3, YES),), (1,): (("no", YES),), (2,): (), (3,): ((3, YES),)}),
                (("then", X, num(1)), {(): (), (1,): (), (2,): ()}),
                (show(num(1)), {(): ((1, YES),), (1,): ((1, YES),)})):
            self.assertEqual(book(ONE, line), tuple((path, rows[path]) for path in slow_paths(line)), line)

    def test_names_behind_sets(self):
        one_and_two = ("let", "x", num(1), ("then", when("a", ("set", "x", num(2)), num(0)), X))
        rows = dict(book(ONE, one_and_two))
        self.assertEqual(rows[(3, 2)], ((1, NOT_A), (2, A)))
        self.assertEqual(rows[(3, 1)], ((0, NOT_A), (2, A)))
        self.assertEqual(rows[(3, 1, 2)], ((2, A),))
        # A set that is stuck in its part does not count, nor does one around the name.
        rows = dict(book(ONE, ("let", "x", num(1), ("set", "x", plus(X, ("set", "x", num(5)))))))
        self.assertEqual(rows[(3, 2, 1)], ((1, YES),))
        self.assertEqual(rows[(3,)], ((6, YES),))
        # Nested sets: the outer one ends last.
        rows = dict(book(ONE, ("let", "x", num(1), ("then", ("set", "x", ("then", ("set", "x", num(5)), num(7))), X))))
        self.assertEqual(rows[(3, 2)], ((7, YES),))

    def test_nested_lets_of_one_name(self):
        inner = ("let", "x", plus(X, num(1)), ("then", ("set", "x", plus(X, X)), X))
        rows = dict(book(ONE, ("let", "x", num(1), plus(inner, X))))
        self.assertEqual(rows[(3, 1)], ((4, YES),))
        self.assertEqual(rows[(3, 1, 3, 2)], ((4, YES),))
        self.assertEqual(rows[(3, 2)], ((1, YES),))
        self.assertEqual(rows[()], ((5, YES),))

    def test_a_name_has_worths_of_two_kinds(self):
        rows = dict(book(ONE, ("let", "x", when("a", TRUE, num(1)), X)))
        self.assertEqual(rows[(3,)], ((1, NOT_A), ("yes", A)))

    def test_where_nothing_is_reached(self):
        line = ("then", when("a", X, num(1)), show(num(3)))
        rows = dict(book(ONE, line))
        self.assertEqual([rows[path] for path in ((), (1,), (1, 2), (2,))], [((3, NOT_A),), ((1, NOT_A),), (), ((3, NOT_A),)])
        self.assertEqual(book(NONE, line), tuple((path, ()) for path in slow_paths(line)))

    def test_equal_worths_are_one_thing(self):
        self.assertEqual(dict(book(ONE, when("a", num(1), plus(num(0), num(1)))))[()], ((1, YES),))
        self.assertEqual(dict(book(ONE, when("a", TRUE, ("less", num(0), num(1)))))[()], (("yes", YES),))

    def test_against_the_local_rules(self):
        for house, line, _ in lines(711, 12):
            known = {setting: Local(line, setting).worths for setting in slow_let(house)}
            found = book(house, line)
            self.assertEqual([path for path, _ in found], list(slow_paths(line)))
            for path, row in found:
                worths = {setting: known[setting][path] for setting in known if path in known[setting]}
                assert_row(self, house, row, worths)

    def test_against_runs_of_single_builds(self):
        """A show put around a node in the build tells what it is worth, if it is worked out to its end."""
        for house, line, dice in lines(712, 4, size=10):
            rows = dict(book(house, line))
            for setting in slow_let(house):
                tree = slow_build(line, setting)
                events = list(run(tree)[0])
                for path in slow_paths(line):
                    inner = built_path(line, path, setting)
                    more = list(run(shown_at(tree, inner))[0]) if inner is not None else list(events)
                    for event in events:
                        more.remove(event)
                    worths = [worth for worth, condition in rows[path] if slow_holds(condition, setting)]
                    self.assertEqual(worths, more, (house, line, setting, path))

    def test_wrong_values(self):
        for bad in STRANGE + tuple(spoiled(show(when("a", num(0), TRUE)))) + (when("c", num(1), num(2)),):
            assert_judged(self, book, [OR, LINE], (0, [OR], BadHouse), (1, bad, BadLine))
            assert_judged(self, shows, [OR, LINE], (0, [OR], BadHouse), (1, bad, BadLine))
            assert_judged(self, shows_where, [OR, LINE, num(1)], (0, [OR], BadHouse), (1, bad, BadLine), (2, bad, BadLine))


class TestShows(unittest.TestCase):
    def test_example(self):
        self.assertEqual(shows(OR, LINE), (
            (((2, 1), ("ends", 1)), ONLY_B), (((1,), ("ends", 0)), ONLY_A), (((1, 1), ("ends", 1)), BOTH)))

    def test_by_hand(self):
        self.assertEqual(shows(NONE, LINE), ())
        self.assertEqual(shows(AB, when("a", X, plus(TRUE, num(1)))), ((((), ("stuck",)), YES),))
        self.assertEqual(shows(ONE, when("a", show(num(1)), num(1))), ((((), ("ends", 1)), NOT_A), (((1,), ("ends", 1)), A)))
        self.assertEqual(shows(ONE, when("a", ("then", show(num(1)), X), X)), ((((), ("stuck",)), NOT_A), (((1,), ("stuck",)), A)))
        # Not how it comes to be shown, but what is shown counts.
        self.assertEqual(shows(ONE, when("a", plus(num(1), num(2)), num(3))), ((((), ("ends", 3)), YES),))

    def test_against_runs(self):
        for house, line, _ in lines(713, 12):
            results = {setting: run(slow_build(line, setting)) for setting in slow_let(house)}
            assert_row(self, house, shows(house, line), results)

    def test_seven_switches(self):
        line = num(0)
        for at, s in enumerate(SEVEN[1]):
            line = plus(line, when(s, show(num(at)), num(0)))
        found = shows(SEVEN, line)
        self.assertEqual(len(found), 128)
        self.assertEqual(found[0][0], ((), ("ends", 0)))
        self.assertEqual(found[-1][0], ((0, 1, 2, 3, 4, 5, 6), ("ends", 21)))


class TestShowsWhere(unittest.TestCase):
    def test_by_hand(self):
        self.assertEqual(shows_where(ONE, when("a", num(3), num(4)), plus(num(1), num(2))), A)
        self.assertEqual(shows_where(ONE, X, plus(TRUE, num(1))), YES)
        self.assertEqual(shows_where(ONE, show(num(1)), num(1)), NO)
        self.assertEqual(shows_where(ONE, num(1), TRUE), NO)
        self.assertEqual(shows_where(NONE, num(1), num(1)), NO)
        assert_told(self, OR, shows_where(OR, LINE, LINE), slow_let(OR))

    def test_against_runs(self):
        for house, line, dice in lines(714, 10):
            other = line if dice.random() < 0.2 else random_line(dice, house[1], 4)
            if dice.random() < 0.5:
                other = when(dice.choice(house[1]), line, other)
            held = [setting for setting in slow_let(house)
                    if run(slow_build(line, setting)) == run(slow_build(other, setting))]
            assert_told(self, house, shows_where(house, line, other), held)


if __name__ == "__main__":
    unittest.main()

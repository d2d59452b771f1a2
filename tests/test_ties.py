"""Point 50, and what point 56 says of it: mentions, ties, and where numbers and truths are joined."""

import unittest

from manybuilds.errors import BadHouse, BadLine, BadTerm
from manybuilds.running import run
from manybuilds.ties import free, good_where, joined_where, ties
from tests.helpers import (
    AB, HOUSES, NO, NONE, ONE, OR, SEVEN, STRANGE, YES, assert_judged, assert_told, dice_of, num, plus, random_house,
    random_line, slow_all, slow_build, slow_let, slow_paths, spoiled, when)
from tests.test_forks import A, B, NOT_A

TRUE, FALSE = ("truth", "yes"), ("truth", "no")
X, Y = ("name", "x"), ("name", "y")
LINE = plus(when("a", TRUE, num(1)), when("b", FALSE, num(2)))
# The terms with which the parts of a node are tied, by their indexes; None is the node itself.
PARTS = {"plus": {1: "number", 2: "number"}, "less": {1: "number", 2: "number"}, "if": {1: "truth", 2: None, 3: None},
         "let": {3: None}, "show": {1: None}, "set": {2: None}, "then": {2: None}, "choice": {2: None, 3: None}}


def slow_binder(line, path):
    """The path of the first part of the nearest let of the name of the mention, or the term of the free name."""
    name = slow_at(line, path)[1]
    for size in range(len(path) - 1, -1, -1):
        node = slow_at(line, path[:size])
        if node[0] == "let" and node[1] == name and path[size] == 3:
            return path[:size] + (2,)
    return ("name", name)


def slow_at(line, path):
    for index in path:
        line = line[index]
    return line


def slow_picked(line, path, setting):
    """Whether each choice around the path picks the part in which it goes on."""
    for size, index in enumerate(path):
        node = slow_at(line, path[:size])
        if node[0] == "choice" and (node[1] in setting) != (index == 2):
            return False
    return True


def slow_ties(line):
    """All ties by path and index, each with its two terms."""
    found = {}
    for path, node in slow_paths(line).items():
        tag = node[0]
        if tag in ("number", "plus"):
            found[path, 0] = (path, "number")
        if tag in ("truth", "less"):
            found[path, 0] = (path, "truth")
        if tag in ("name", "set"):
            found[path, 0] = (path, slow_binder(line, path))
        for index, term in PARTS.get(tag, {}).items():
            found[path, index] = (path + (index,), path if term is None else term)
    return found


def slow_standing(line, setting):
    """The ties that stand in a setting."""
    found = {}
    for (path, index), ends in slow_ties(line).items():
        inner = path + (index,) if slow_at(line, path)[0] == "choice" else path
        if slow_picked(line, inner, setting):
            found[path, index] = ends
    return found


def slow_reached(pairs, term):
    """All terms to which pairs lead from this one."""
    found = [term]
    for known in found:
        for one, other in pairs:
            if one == known and other not in found:
                found.append(other)
            if other == known and one not in found:
                found.append(one)
    return found


def slow_terms(line):
    terms = ["number", "truth"] + list(slow_paths(line))
    return terms + sorted({other for _, other in slow_ties(line).values() if other[:1] == ("name",)})


def typed_line(dice, switches, size, kind="number", wrong=0.1):
    """A line of a kind, with some parts of the other kind."""
    if dice.random() < wrong:
        kind = "truth" if kind == "number" else "number"
    if size <= 2:
        if dice.random() < 0.2:
            return dice.choice((X, Y, ("set", "x", num(1))))
        return num(dice.randint(0, 3)) if kind == "number" else dice.choice((TRUE, FALSE))
    head, kinds = dice.choice((
        (("choice", dice.choice(switches)), (kind, kind)), (("choice", dice.choice(switches)), (kind, kind)),
        (("if",), ("truth", kind, kind)), (("show",), (kind,)), (("then",), (dice.choice(("number", "truth")), kind)),
        (("let", dice.choice("xy")), (dice.choice(("number", "truth")), kind)), (("set", "x"), (kind,)),
        (("plus",) if kind == "number" else ("less",), ("number", "number"))))
    return head + tuple(typed_line(dice, switches, (size - 1) // len(kinds), part, wrong) for part in kinds)


def cases(seed, many, size=14):
    dice = dice_of(seed)
    for house in HOUSES + tuple(random_house(dice, dice.randint(1, 4)) for _ in range(8)):
        for _ in range(many):
            if dice.random() < 0.5:
                yield house, random_line(dice, house[1], dice.randint(1, size)), dice
            else:
                yield house, typed_line(dice, house[1], dice.randint(3, size), wrong=dice.choice((0, 0.1, 0.2))), dice


class TestTies(unittest.TestCase):
    def test_example(self):
        found = ties(AB, LINE)
        self.assertIn(((1,), 2, (1, 2), (1,), A), found)
        self.assertEqual(len(found), 11)
        self.assertEqual(found[0], ((), 0, (), "number", YES))
        self.assertEqual(good_where(AB, LINE), ("split", "a", NO, ("split", "b", NO, YES)))

    def test_each_kind_of_node(self):
        one, two = num(1), TRUE
        for line, rows in (
                (num(5), [((), 0, (), "number")]), (TRUE, [((), 0, (), "truth")]), (X, [((), 0, (), X)]),
                (("set", "x", one), [((), 0, (), X), ((), 2, (2,), ()), ((2,), 0, (2,), "number")]),
                (plus(one, two), [((), 0, (), "number"), ((), 1, (1,), "number"), ((), 2, (2,), "number"),
                                  ((1,), 0, (1,), "number"), ((2,), 0, (2,), "truth")]),
                (("less", one, two), [((), 0, (), "truth"), ((), 1, (1,), "number"), ((), 2, (2,), "number"),
                                      ((1,), 0, (1,), "number"), ((2,), 0, (2,), "truth")]),
                (("if", two, one, X), [((), 1, (1,), "truth"), ((), 2, (2,), ()), ((), 3, (3,), ()), ((1,), 0, (1,), "truth"),
                                       ((2,), 0, (2,), "number"), ((3,), 0, (3,), X)]),
                (("show", one), [((), 1, (1,), ()), ((1,), 0, (1,), "number")]),
                (("then", two, one), [((), 2, (2,), ()), ((1,), 0, (1,), "truth"), ((2,), 0, (2,), "number")]),
                (("let", "x", one, X), [((), 3, (3,), ()), ((2,), 0, (2,), "number"), ((3,), 0, (3,), (2,))])):
            self.assertEqual(ties(AB, line), tuple(row + (YES,) for row in rows), line)
        self.assertEqual(ties(AB, when("a", num(1), X)), (((), 2, (2,), (), A), ((), 3, (3,), (), NOT_A),
                                                         ((2,), 0, (2,), "number", A), ((3,), 0, (3,), X, NOT_A)))

    def test_ties_that_stand_for_none_are_left_out(self):
        line = when("a", when("a", num(1), TRUE), num(2))
        self.assertEqual([row[:2] for row in ties(AB, line)], [((), 2), ((), 3), ((2,), 2), ((2, 2), 0), ((3,), 0)])
        self.assertEqual(ties(NONE, line), ())
        self.assertEqual([row[:2] for row in ties(("house", ("a",), ("is", "a")), when("a", num(1), TRUE))], [((), 2), ((2,), 0)])

    def test_against_slow(self):
        for house, line, _ in cases(151, 8):
            rows = ties(house, line)
            expected = {}
            for setting in slow_let(house):
                for tie in slow_standing(line, setting):
                    expected.setdefault(tie, []).append(setting)
            self.assertEqual([row[:2] for row in rows], sorted(expected))
            for path, index, one, other, condition in rows:
                self.assertEqual((one, other), slow_ties(line)[path, index])
                assert_told(self, house, condition, expected[path, index])


class TestMentions(unittest.TestCase):
    def test_bound_by_the_nearest_let_alone(self):
        line = ("let", "x", num(1), ("let", "x", TRUE, X))
        self.assertIn(((3, 3), 0, (3, 3), (3, 2), YES), ties(AB, line))
        # In its first part a let binds nothing of its own.
        line = ("let", "x", X, X)
        self.assertIn(((2,), 0, (2,), X, YES), ties(AB, line))
        self.assertIn(((3,), 0, (3,), (2,), YES), ties(AB, line))
        line = ("let", "x", num(1), ("let", "x", X, ("let", "y", X, ("set", "x", Y))))
        found = {row[:2]: row[3] for row in ties(AB, line)}
        self.assertEqual([found[path, 0] for path in ((3, 2), (3, 3, 2), (3, 3, 3), (3, 3, 3, 2))],
                         [(2,), (3, 2), (3, 2), (3, 3, 2)])

    def test_through_choices(self):
        line = when("a", ("let", "x", num(1), when("b", X, Y)), X)
        found = {row[:2]: row[3] for row in ties(AB, line)}
        self.assertEqual([found[path, 0] for path in ((2, 3, 2), (2, 3, 3), (3,))], [(2, 2), Y, X])

    def test_free(self):
        self.assertEqual(free(AB, plus(Y, when("a", X, ("set", "y", num(1))))), (("x", A), ("y", YES)))
        self.assertEqual(free(AB, ("let", "x", num(1), X)), ())
        self.assertEqual(free(AB, ("let", "x", X, X)), (("x", YES),))
        self.assertEqual(free(AB, when("a", when("b", X, num(1)), X)), (("x", ("split", "a", B, YES)),))
        self.assertEqual(free(AB, ("set", "x", num(1))), (("x", YES),))
        self.assertEqual(free(AB, when("a", when("a", num(1), X), num(1))), ())
        self.assertEqual(free(NONE, X), ())

    def test_free_against_slow(self):
        for house, line, _ in cases(152, 10):
            expected = {}
            for path, node in sorted(slow_paths(line).items()):
                if node[0] in ("name", "set") and slow_binder(line, path)[0] == "name":
                    settings = [setting for setting in slow_let(house) if slow_picked(line, path, setting)]
                    expected.setdefault(node[1], set()).update(settings)
            found = free(house, line)
            self.assertEqual([name for name, _ in found], sorted(name for name in expected if expected[name]))
            for name, condition in found:
                assert_told(self, house, condition, [s for s in slow_let(house) if s in expected[name]])


class TestJoined(unittest.TestCase):
    def test_by_hand(self):
        self.assertEqual(joined_where(AB, LINE, "number", "truth"), ("split", "a", YES, B))
        self.assertEqual(joined_where(AB, LINE, (1,), "truth"), ("split", "a", YES, B))
        self.assertEqual(joined_where(AB, LINE, (1, 2), "truth"), ("split", "a", YES, NO))
        self.assertEqual(joined_where(AB, LINE, (1, 3), (1,)), NOT_A)
        self.assertEqual(joined_where(AB, LINE, (1, 3), (1, 3)), YES)
        self.assertEqual(joined_where(AB, plus(X, num(1)), X, "number"), YES)
        self.assertEqual(joined_where(AB, when("a", X, TRUE), X, ()), A)
        self.assertEqual(joined_where(OR, num(1), "number", "number"), ("split", "a", YES, B))
        self.assertEqual(joined_where(NONE, num(1), "number", "number"), NO)

    def test_against_slow(self):
        for house, line, dice in cases(153, 5):
            terms = slow_terms(line)
            reached = {}
            for setting in slow_let(house):
                pairs = list(slow_standing(line, setting).values())
                reached[setting] = {term: slow_reached(pairs, term) for term in dice.sample(terms, min(4, len(terms)))}
            for one in {term for known in reached.values() for term in known}:
                for other in dice.sample(terms, min(4, len(terms))):
                    settings = []
                    for setting in slow_let(house):
                        pairs = list(slow_standing(line, setting).values())
                        if other in reached[setting].get(one, slow_reached(pairs, one)):
                            settings.append(setting)
                    assert_told(self, house, joined_where(house, line, one, other), settings)
                    self.assertEqual(joined_where(house, line, one, other), joined_where(house, line, other, one))

    def test_good_against_slow(self):
        goods = bads = 0
        for house, line, _ in cases(154, 12, 20):
            good = [setting for setting in slow_let(house)
                    if "truth" not in slow_reached(list(slow_standing(line, setting).values()), "number")]
            assert_told(self, house, good_where(house, line), good)
            goods += len(good)
            bads += len(slow_let(house)) - len(good)
        self.assertGreater(min(goods, bads), 60)

    def test_good_builds_are_never_stuck(self):
        ends = {int: 0, str: 0}
        for house, line, _ in cases(155, 15, 20):
            for setting in slow_let(house):
                tree = slow_build(line, setting)
                if good_where(ONE, tree) != YES or free(ONE, tree):
                    continue
                events, end = run(tree)
                self.assertEqual(end[0], "ends", tree)
                is_number = joined_where(ONE, tree, (), "number") == YES
                self.assertIs(isinstance(end[1], int), is_number)
                self.assertIs(isinstance(end[1], str), joined_where(ONE, tree, (), "truth") == YES)
                self.assertTrue(all(isinstance(event, int) or event in ("yes", "no") for event in events))
                ends[type(end[1])] += 1
        self.assertGreater(min(ends.values()), 30)

    def test_good_builds_are_told_by_their_lines(self):
        for house, line, _ in cases(156, 6):
            for setting in slow_let(house):
                alone = ("house", ("a",), YES)
                self.assertEqual(good_where(alone, slow_build(line, setting)) == YES,
                                 "truth" not in slow_reached(list(slow_standing(line, setting).values()), "number"))

    def test_seven_switches(self):
        line = num(0)
        for s in SEVEN[1]:
            line = plus(when(s, line, num(1)), num(2))
        self.assertEqual(good_where(SEVEN, line), YES)
        self.assertEqual(len(slow_all(SEVEN)), 128)
        odd = when("g", when("a", TRUE, num(1)), line)
        self.assertEqual(good_where(SEVEN, plus(num(1), odd)), ("split", "g", ("split", "a", NO, YES), YES))


class TestRefused(unittest.TestCase):
    def test_errors_in_their_order(self):
        for function in (free, ties, good_where):
            assert_judged(self, function, (AB, LINE), (0, (), BadHouse), (1, (), BadLine))
        assert_judged(self, joined_where, (AB, LINE, (), ()), (0, (), BadHouse), (1, (), BadLine), (2, (3,), BadTerm),
                      (3, (3,), BadTerm))

    def test_terms(self):
        line = ("let", "y", X, plus(Y, when("a", when("a", num(1), ("name", "z")), num(2))))
        for term in slow_terms(line):
            joined_where(AB, line, term, term)
        self.assertEqual(joined_where(AB, line, ("name", "z"), ("name", "z")), YES)
        wrong = [thing for thing in STRANGE if thing not in ("number", ())]
        wrong += [Y, ("name", "w"), ("name",), ("name", "x", "y"), ("name", ["x"]), ["name", "x"], (1,), (2, 1), (3, 0), (3, 3),
                  (True,), (3, True), (-1,), [3], [], "x", "numbers", b"number", ("number",),
                  ("truth", "yes"), (3, "1"), (3, None), ("3",), ((3,),), 3, ("name", "x ")]
        for bad in wrong:
            with self.assertRaises(BadTerm):
                joined_where(AB, line, bad, ())
            with self.assertRaises(BadTerm):
                joined_where(AB, line, (), bad)
        for wrong_term in spoiled((3, 1)):
            with self.assertRaises(BadTerm):
                joined_where(AB, line, wrong_term, ())

    def test_wrong_values(self):
        for bad in STRANGE:
            for function in (free, ties, good_where):
                with self.assertRaises(BadHouse):
                    function(bad, LINE)
                with self.assertRaises(BadLine):
                    function(AB, bad)


if __name__ == "__main__":
    unittest.main()

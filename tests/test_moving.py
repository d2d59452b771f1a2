"""Point 44: moves and ways."""

import unittest

from manybuilds.errors import BadHouse, BadLine, BadMove, NotAlike
from manybuilds.least import least
from manybuilds.lines import same_builds
from manybuilds.moving import moved, way
from tests.helpers import (
    AB, HOUSES, NONE, OR, SEVEN, STRANGE, assert_judged, decided, dice_of, num, plus, random_house, random_line,
    slow_builds, slow_let, slow_paths, spoiled, when)

LINE = plus(when("a", num(1), num(2)), num(3))


def slow_come(house, line, path):
    """The let settings that come to the path."""
    come = []
    for setting in slow_let(house):
        node, comes = line, True
        for index in path:
            if node[0] == "choice" and (index == 2) != (node[1] in setting):
                comes = False
            node = node[index]
        if comes:
            come.append(setting)
    return come


def replaced(line, path, node):
    if not path:
        return node
    return line[:path[0]] + (replaced(line[path[0]], path[1:], node),) + line[path[0] + 1:]


def slow_moved(house, line, move):
    """The line behind a move of the right form, or None."""
    path = move[1]
    node = slow_paths(line)[path]
    come = slow_come(house, line, path)
    if move[0] == "double":
        return replaced(line, path, ("choice", move[2], node, node))
    if move[0] == "merge":
        return replaced(line, path, node[2]) if node[0] == "choice" and node[2] == node[3] else None
    if move[0] == "settle":
        if node[0] != "choice" or any((node[1] in setting) != (move[2] == "on") for setting in come):
            return None
        return replaced(line, path, node[2] if move[2] == "on" else node[3])
    if any((move[2] in setting) != (move[3] == "on") for setting in come):
        return None
    parts = (node, move[4]) if move[3] == "on" else (move[4], node)
    return replaced(line, path, ("choice", move[2]) + parts)


class TestMoved(unittest.TestCase):
    def test_double_and_merge(self):
        self.assertEqual(moved(AB, LINE, ("double", (), "b")), when("b", LINE, LINE))
        self.assertEqual(moved(AB, LINE, ("double", (2,), "a")), plus(when("a", num(1), num(2)), when("a", num(3), num(3))))
        self.assertEqual(moved(AB, when("b", LINE, LINE), ("merge", ())), LINE)
        self.assertEqual(moved(AB, plus(num(1), when("b", num(2), num(2))), ("merge", (2,))), plus(num(1), num(2)))

    def test_settle(self):
        line = when("a", when("a", num(1), num(2)), when("a", num(3), num(4)))
        self.assertEqual(moved(AB, line, ("settle", (2,), "on")), when("a", num(1), when("a", num(3), num(4))))
        self.assertEqual(moved(AB, line, ("settle", (3,), "off")), when("a", when("a", num(1), num(2)), num(4)))
        for bad in (("settle", (2,), "off"), ("settle", (3,), "on"), ("settle", (), "on"), ("settle", (2, 2), "on")):
            with self.assertRaises(BadMove):
                moved(AB, line, bad)
        # Where no setting comes both sides are so.
        self.assertEqual(moved(AB, when("a", line, num(0)), ("settle", (2, 3), "on")), when("a", when("a", line[2], num(3)), num(0)))

    def test_the_rule_counts(self):
        line = when("a", num(1), when("b", num(2), num(3)))
        self.assertEqual(moved(OR, line, ("settle", (3,), "on")), when("a", num(1), num(2)))
        with self.assertRaises(BadMove):
            moved(AB, line, ("settle", (3,), "on"))
        self.assertEqual(moved(NONE, line, ("settle", (), "off")), when("b", num(2), num(3)))
        self.assertEqual(moved(OR, when("a", num(1), num(2)), ("grow", (3,), "b", "on", num(9))),
                         when("a", num(1), when("b", num(2), num(9))))

    def test_grow(self):
        line = when("a", num(1), num(2))
        self.assertEqual(moved(AB, line, ("grow", (2,), "a", "on", LINE)), when("a", when("a", num(1), LINE), num(2)))
        self.assertEqual(moved(AB, line, ("grow", (3,), "a", "off", LINE)), when("a", num(1), when("a", LINE, num(2))))
        for bad in (("grow", (2,), "a", "off", num(1)), ("grow", (2,), "b", "on", num(1)), ("grow", (), "a", "on", num(1))):
            with self.assertRaises(BadMove):
                moved(AB, line, bad)

    def test_against_slow(self):
        dice = dice_of(24)
        done = {}
        for _ in range(1500):
            house = dice.choice(HOUSES)
            line = random_line(dice, house[1], 12, 0.6)
            path = dice.choice(list(slow_paths(line)))
            s, side = dice.choice(house[1]), dice.choice(("on", "off"))
            move = dice.choice((("double", path, s), ("merge", path), ("settle", path, side),
                                ("grow", path, s, side, random_line(dice, house[1], 3))))
            expected = slow_moved(house, line, move)
            if expected is None:
                with self.assertRaises(BadMove):
                    moved(house, line, move)
            else:
                told = moved(house, line, move)
                self.assertEqual(told, expected)
                self.assertTrue(same_builds(house, line, told))
                done[move[0]] = done.get(move[0], 0) + 1
        self.assertEqual(len(done), 4)

    def test_no_moves(self):
        wrong = (
            ("double", ()), ("double", (), "c"), ("double", (), "a", "b"), ("double", [], "a"), ("double", (3,), "a"),
            ("double", (0,), "a"), ("double", (True,), "a"), ("double", (), ("a",)), ("double", (), None), ("merge",),
            ("merge", ()), ("merge", (1,)), ("merge", (), ()), ("merge", (1, 1)), ("settle", ()), ("settle", (), "on"),
            ("settle", (1,), "on"), ("settle", (1,), "off"), ("settle", (1,), "both"), ("settle", (1,), True),
            ("settle", (2,), "on"), ("grow", (), "a", "on"), ("grow", (1, 2), "c", "on", num(1)),
            ("grow", (1, 2), "a", "on", 1), ("grow", (1, 2), "a", "on", ("number", True)), ("grow", (1, 2), "a", True, num(1)),
            ("grow", (1, 2), "a", "on", when("c", num(1), num(1))), ("grow", (1, 2), "a", "on", [num(1)]),
            ("move", ()), ("push", (), "a"), ("grow", (1, 1), "a", "on", num(1)), ("settle", (1,), ["on"]),
        )
        for bad in STRANGE + wrong:
            with self.assertRaises(BadMove):
                moved(AB, LINE, bad)
        for move in (("double", (1,), "a"), ("grow", (1, 2), "a", "on", plus(num(0), num(1)))):
            moved(AB, LINE, move)
            for bad in spoiled(move):
                with self.assertRaises(BadMove):
                    moved(AB, LINE, bad)
        # A side is "on" or "off" and nothing else, also where all settings have the switch off.
        for bad in (("settle", (3,), "both"), ("settle", (3,), ""), ("grow", (3,), "a", "of", num(1))):
            with self.assertRaises(BadMove):
                moved(AB, when("a", num(0), when("a", num(1), num(2))), bad)
        good = when("a", when("a", num(1), num(1)), num(0))
        for move in (("merge", (2,)), ("settle", (2,), "on")):
            moved(AB, good, move)
            for bad in spoiled(move):
                with self.assertRaises(BadMove):
                    moved(AB, good, bad)

    def test_refused(self):
        assert_judged(self, moved, (AB, LINE, ("double", (), "a")), (0, [], BadHouse), (1, (), BadLine), (2, (), BadMove))


    def test_example_of_point_46(self):
        line = plus(when("a", num(1), num(2)), when("a", num(3), num(4)))
        doubled = moved(AB, line, ("double", (), "a"))
        self.assertEqual(doubled, when("a", line, line))
        for path, side in (((2, 1), "on"), ((2, 2), "on"), ((3, 1), "off"), ((3, 2), "off")):
            with self.assertRaises(BadMove):
                moved(AB, doubled, ("settle", path, "off" if side == "on" else "on"))
            doubled = moved(AB, doubled, ("settle", path, side))
        self.assertEqual(doubled, when("a", plus(num(1), num(3)), plus(num(2), num(4))))


class TestWay(unittest.TestCase):
    def assert_leads(self, house, one, other):
        moves = way(house, one, other)
        self.assertIs(type(moves), tuple)
        self.assertEqual(way(house, one, other), moves)
        line = one
        for move in moves:
            line = moved(house, line, move)
        self.assertEqual(line, other)
        return moves

    def test_equal_lines(self):
        self.assertEqual(self.assert_leads(AB, LINE, LINE), ())

    def test_all_roads(self):
        one = plus(when("a", num(1), num(2)), when("a", num(3), num(4)))
        pulled = when("a", plus(num(1), num(3)), plus(num(2), num(4)))
        exchanged = when("b", pulled, pulled)
        for house in (AB, OR, NONE):
            for begin in (one, pulled, exchanged):
                for end in (one, pulled, exchanged):
                    self.assert_leads(house, begin, end)

    def test_no_let_setting(self):
        self.assert_leads(NONE, num(1), plus(num(2), num(3)))
        self.assert_leads(("house", ("x",), ("no",)), when("x", num(1), num(2)), ("show", num(3)))

    def test_to_and_from_the_least_line(self):
        dice = dice_of(25)
        for turn in range(150):
            house = dice.choice(HOUSES) if turn % 2 else random_house(dice, dice.randint(1, 5))
            line = random_line(dice, house[1], dice.randint(1, 25), 0.5)
            told = least(house, line)
            self.assert_leads(house, line, told)
            self.assert_leads(house, told, line)

    def test_to_and_from_other_writings(self):
        dice = dice_of(26)
        for turn in range(80):
            house = dice.choice(HOUSES)
            line = random_line(dice, house[1], dice.randint(1, 18), 0.6)
            trees = slow_builds(house, line)
            turned = ("house", house[1][::-1], house[2])
            written = decided(turned, {tuple(s for s in turned[1] if s in setting): tree for setting, tree in trees.items()})
            self.assert_leads(house, line, written)
            self.assert_leads(house, written, line)
            self.assert_leads(house, decided(house, trees), written)

    def test_seven_switches(self):
        line = num(0)
        for s in SEVEN[1]:
            line = plus(when(s, num(1), num(2)), line)
        written = decided(SEVEN, slow_builds(SEVEN, line))
        self.assert_leads(SEVEN, line, written)
        self.assert_leads(SEVEN, written, line)

    def test_not_alike(self):
        with self.assertRaises(NotAlike):
            way(AB, num(1), num(2))
        with self.assertRaises(NotAlike):
            way(OR, when("a", num(1), num(2)), when("b", num(1), num(2)))
        self.assert_leads(("house", ("a", "b"), ("is", "a")), when("a", num(1), num(2)), when("b", num(1), num(1)))
        dice = dice_of(27)
        for _ in range(200):
            house = dice.choice(HOUSES)
            one, other = random_line(dice, house[1], 4, 0.7), random_line(dice, house[1], 4, 0.7)
            if same_builds(house, one, other):
                self.assert_leads(house, one, other)
            else:
                with self.assertRaises(NotAlike):
                    way(house, one, other)

    def test_refused(self):
        assert_judged(self, way, (AB, num(1), num(1)), (0, [], BadHouse), (1, (), BadLine), (2, num(2000), BadLine))
        with self.assertRaises(BadLine):
            way(AB, num(1), None)
        with self.assertRaises(BadLine):
            way(AB, ("number", True), num(1))


if __name__ == "__main__":
    unittest.main()

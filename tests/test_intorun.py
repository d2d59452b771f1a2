"""Points 113 and 114, and what point 115 says of them: switches that are moved into the run, and back."""

import itertools
import unittest

from manybuilds.errors import BadHouse, BadLine, BadLot, BadNames, BadSetting, Caught
from manybuilds.intorun import answered, lifted, moved_in
from manybuilds.lines import builds, is_line
from manybuilds.running import run
from tests.helpers import (
    AB, HOUSES, NONE, ODD, OR, SEVEN, STRANGE, YES, assert_judged, dice_of, is_plain_name, num, plus, random_house,
    slow_all, slow_build, slow_label, slow_nodes, slow_parts, slow_paths, spoiled, when)
from tests.test_books import LINE, lines, show
from tests.test_enough import slow_lots
from tests.test_ties import FALSE, TRUE, X, Y

C, D = ("name", "c"), ("name", "d")


def asks(name, on, off):
    return ("if", ("name", name), on, off)


def slow_moved(line, names):
    """The line with ifs of names in the place of choices of switches that have one."""
    parts = tuple(slow_moved(part, names) for part in slow_parts(line))
    if line[0] == "choice" and line[1] in names:
        return ("if", ("name", names[line[1]])) + parts
    return slow_label(line) + parts


def slow_names(house, line, many):
    """The first names that neither stand in the line nor are switches."""
    taken = set(house[1]) | {node[1] for node in slow_nodes(line) if node[0] in ("name", "let", "set")}
    letters = "abcdefghijklmnopqrstuvwxyz"
    words = ("".join(word) for size in (1, 2) for word in itertools.product(letters, repeat=size))
    return tuple(itertools.islice((word for word in words if is_plain_name(word) and word not in taken), many))


def slow_caught(line, names):
    """The paths of all nodes that keep the names from being lifted, in order."""
    found = []
    for path, node in slow_paths(line).items():
        if node[0] in ("let", "set") and node[1] in names:
            found.append(path)
        if node[0] == "name" and node[1] in names:
            around = line
            for index in path[:-1]:
                around = around[index]
            if not path or around[0] != "if" or path[-1] != 1:
                found.append(path)
    return found


def random_ifs(dice, line, names):
    """The line with ifs of the names at some places, at times with other mentions of them."""
    if dice.random() < 0.25:
        return asks(dice.choice(names), line, random_ifs(dice, line, names) if dice.random() < 0.3 else num(1))
    if dice.random() < 0.03:
        name = dice.choice(names)
        return dice.choice((("name", name), ("set", name, line), ("let", name, num(1), line), asks(name, ("name", name), line)))
    return slow_label(line) + tuple(random_ifs(dice, part, names) for part in slow_parts(line))


class TestMovedIn(unittest.TestCase):
    def test_example(self):
        names, line = moved_in(OR, LINE, ("a",))
        self.assertEqual(names, ("c",))
        self.assertEqual(line, ("then", show(asks("c", num(1), num(2))), LINE[2]))

    def test_by_hand(self):
        self.assertEqual(moved_in(AB, LINE, ()), ((), LINE))
        both = ("then", show(asks("c", num(1), num(2))), ("if", asks("d", TRUE, FALSE), show(num(1)), num(0)))
        self.assertEqual(moved_in(AB, LINE, ("a", "b")), (("c", "d"), both))
        nested = when("a", when("b", when("a", num(1), num(2)), X), when("a", num(3), num(4)))
        self.assertEqual(moved_in(AB, nested, ("a",)), (("c",), asks("c", when("b", asks("c", num(1), num(2)), X),
                                                                     asks("c", num(3), num(4)))))
        # A switch of which the line has no choice has a name, too.
        self.assertEqual(moved_in(AB, num(1), ("b",)), (("c",), num(1)))
        self.assertEqual(moved_in(NONE, LINE, ("a",))[0], ("c",))

    def test_taken_names(self):
        line = ("let", "d", ("name", "c"), ("set", "f", when("a", num(1), ("name", "e"))))
        self.assertEqual(moved_in(AB, line, ("a", "b"))[0], ("g", "h"))
        # Free mentions and such as stand in parts that are never picked count as well.
        hidden = when("a", num(1), when("a", ("name", "c"), ("set", "d", num(2))))
        self.assertEqual(moved_in(AB, hidden, ("a",))[0], ("e",))
        house = ("house", ("g", "c", "a"), YES)
        self.assertEqual(moved_in(house, num(1), ("g", "a"))[0], ("b", "d"))

    def test_longer_names(self):
        letters = "abcdefghijklmnopqrstuvwxyz"
        line = num(1)
        for letter in letters[7:]:
            line = plus(line, ("name", letter))
        house = ("house", tuple("abcdefg"), YES)
        self.assertEqual(moved_in(house, line, tuple("abcdefg"))[0], ("aa", "ab", "ac", "ad", "ae", "af", "ag"))
        # No kept word is a name: behind "id" and "ie" stand "ig", "ih".
        many = [first + second for first in "abcdefgh" for second in letters] + ["i" + letter for letter in "abcd"]
        for name in many:
            line = ("then", ("name", name), line) if len(slow_nodes(line)) % 2 else ("then", line, ("name", name))
        self.assertEqual(moved_in(house, line, tuple("abcdefg"))[0], ("ie", "ig", "ih", "ii", "ij", "ik", "il"))

    def test_against_slow(self):
        dice = dice_of(1131)
        for house, line, _ in lines(1132, 6):
            lot = dice.choice(slow_lots(house))
            names, moved = moved_in(house, line, lot)
            self.assertEqual(names, slow_names(house, line, len(lot)))
            self.assertEqual(moved, slow_moved(line, dict(zip(lot, names))))
            self.assertIs(is_line(house, moved), True)

    def test_if_all_are_moved_there_is_one_build(self):
        for house, line, _ in lines(1133, 3):
            whole = ("house", house[1], YES)
            self.assertEqual(len(builds(whole, moved_in(house, line, house[1])[1])), 1)

    def test_wrong_values(self):
        bads = [bad for bad in STRANGE if bad != ()] + [("b", "a"), ("a", "a"), ("c",), ["a"], "a"] + list(spoiled(("a",)))
        for bad in bads:
            assert_judged(self, moved_in, [AB, LINE, ("a",)], (0, AB[:2], BadHouse), (1, when("c", X, X), BadLine), (2, bad, BadLot))


class TestAnswered(unittest.TestCase):
    def test_by_hand(self):
        self.assertEqual(answered(AB, (), (), ("a",), X), X)
        self.assertEqual(answered(AB, ("a",), ("c",), ("a",), X), ("let", "c", TRUE, X))
        self.assertEqual(answered(AB, ("a",), ("c",), ("b",), LINE), ("let", "c", FALSE, LINE))
        self.assertEqual(answered(AB, ("a", "b"), ("x", "y"), ("b",), plus(X, Y)),
                         ("let", "x", FALSE, ("let", "y", TRUE, plus(X, Y))))
        # Let or not; names may be those of switches, or stand in the line.
        self.assertEqual(answered(NONE, ("b",), ("b",), ("a", "b"), ("set", "b", num(1))), ("let", "b", TRUE, ("set", "b", num(1))))

    def test_what_was_moved_has_the_run_result(self):
        dice = dice_of(1134)
        shown = 0
        for house, line, _ in lines(1135, 5):
            for lot in dice.sample(slow_lots(house), 2):
                names, moved = moved_in(house, line, lot)
                for setting in slow_all(house):
                    result = run(slow_build(line, setting))
                    told = answered(house, lot, names, setting, moved)
                    self.assertEqual(run(slow_build(told, setting)), result)
                    shown += result[0] != ()
        self.assertGreater(shown, 200)

    def test_wrong_values(self):
        good = [AB, ("a", "b"), ("c", "d"), ("a",), LINE]
        bads = STRANGE + (("c",), ("c", "d", "e"), ("c", "c"), ["c", "d"], ("c", "if"), ("c", "D"), ("c", ""), ("c", "abcdefghi"))
        for bad in bads + tuple(spoiled(("c", "d"))):
            assert_judged(self, answered, good, (0, 0, BadHouse), (1, ("b", "a"), BadLot), (2, bad, BadNames),
                          (3, ("b", "a"), BadSetting), (4, when("c", X, X), BadLine))
        for bad in [bad for bad in STRANGE if bad != ()] + [["a"], ("c",)]:
            if bad not in (("a",),):
                assert_judged(self, answered, good, (3, bad, BadSetting), (4, bad, BadLine))
        assert_judged(self, answered, [AB, (), (), (), X], (2, ("c",), BadNames), (2, [], BadNames), (2, None, BadNames))


class TestLifted(unittest.TestCase):
    def test_by_hand(self):
        line = asks("c", num(1), plus(X, asks("d", X, asks("c", TRUE, FALSE))))
        self.assertEqual(lifted(AB, ("a", "b"), ("c", "d"), line),
                         when("a", num(1), plus(X, when("b", X, when("a", TRUE, FALSE)))))
        self.assertEqual(lifted(AB, ("b",), ("d",), line), asks("c", num(1), plus(X, when("b", X, asks("c", TRUE, FALSE)))))
        self.assertEqual(lifted(AB, (), (), line), line)
        self.assertEqual(lifted(NONE, ("a",), ("c",), num(1)), num(1))
        # Choices stay, and other ifs, also such as ask for what holds an if of a name.
        line = when("a", ("if", asks("c", TRUE, FALSE), num(1), num(2)), ("if", ("less", num(1), num(2)), X, X))
        self.assertEqual(lifted(AB, ("b",), ("c",), line),
                         when("a", ("if", when("b", TRUE, FALSE), num(1), num(2)), line[3]))

    def test_names_that_are_switches(self):
        # Choices of a switch that is called like a name are none of its mentions.
        line = plus(when("a", num(1), num(2)), asks("a", when("b", num(3), num(4)), num(5)))
        self.assertEqual(lifted(AB, ("b",), ("a",), line), plus(line[1], when("b", when("b", num(3), num(4)), num(5))))
        line = ("if", when("a", TRUE, FALSE), num(1), num(2))
        self.assertEqual(lifted(AB, ("a", "b"), ("b", "a"), line), line)
        self.assertEqual(lifted(AB, ("a",), ("a",), asks("a", num(1), num(2))), when("a", num(1), num(2)))

    def assert_caught(self, line, path):
        with self.assertRaises(Caught) as caught:
            lifted(AB, ("a", "b"), ("c", "d"), line)
        self.assertEqual(caught.exception.path, path, line)

    def test_caught(self):
        for line, path in (
                (C, ()), (("let", "d", X, X), ()), (("set", "c", X), ()), (plus(X, C), (2,)), (asks("c", C, X), (2,)),
                (asks("c", X, D), (3,)), (("if", show(C), X, X), (1, 1)), (("if", X, D, X), (2,)), (show(("let", "x", D, C)), (1, 2)),
                (when("a", X, ("set", "d", C)), (3,)), (("if", ("let", "c", X, Y), X, X), (1,)), (("if", ("set", "c", X), X, X), (1,)),
                (plus(asks("c", X, Y), ("let", "x", D, C)), (2, 2)), (("if", when("a", C, X), X, X), (1, 2)),
                (("let", "x", ("let", "c", X, X), D), (2,)), (asks("x", asks("c", X, Y), plus(D, C)), (3, 1))):
            self.assert_caught(line, path)
        # Other names may be let, set and read anywhere.
        line = ("let", "x", Y, ("set", "x", plus(X, Y)))
        self.assertEqual(lifted(AB, ("a", "b"), ("c", "d"), line), line)
        self.assertEqual(lifted(AB, ("a",), ("c",), plus(D, ("let", "d", D, D))), plus(D, ("let", "d", D, D)))

    def test_back_from_moved(self):
        dice = dice_of(1141)
        for house, line, _ in lines(1142, 6):
            for lot in dice.sample(slow_lots(house), 2):
                names, moved = moved_in(house, line, lot)
                self.assertEqual(lifted(house, lot, names, moved), line)

    def test_against_slow(self):
        dice = dice_of(1143)
        seen = {True: 0, False: 0}
        for house, line, _ in lines(1144, 12):
            lot = dice.choice(slow_lots(house)[1:])
            names = tuple(dice.sample("mnopqrst", len(lot)))
            line = random_ifs(dice, line, names)
            caught = slow_caught(line, names)
            seen[bool(caught)] += 1
            if caught:
                with self.assertRaises(Caught) as error:
                    lifted(house, lot, names, line)
                self.assertEqual(error.exception.path, caught[0])
                continue
            told = lifted(house, lot, names, line)
            self.assertFalse({node[1] for node in slow_nodes(told) if node[0] == "name"} & set(names))
            for setting in slow_all(house):
                self.assertEqual(run(slow_build(told, setting)),
                                 run(slow_build(answered(house, lot, names, setting, line), setting)))
        self.assertGreater(min(seen.values()), 20, seen)

    def test_seven_switches(self):
        line = num(0)
        for s in SEVEN[1]:
            line = plus(line, when(s, show(num(1)), num(0)))
        names, moved = moved_in(SEVEN, line, SEVEN[1])
        self.assertEqual(names, tuple("hijklmn"))
        self.assertEqual(lifted(SEVEN, SEVEN[1], names, moved), line)
        self.assertEqual(run(answered(SEVEN, SEVEN[1], names, ("f", "a"), moved)), ((1, 1), ("ends", 2)))

    def test_wrong_values(self):
        good = [ODD, ("a", "c"), ("x", "y"), asks("x", num(1), num(2))]
        bads = STRANGE + (("x",), ("x", "y", "z"), ("x", "x"), ["x", "y"], ("x", "let")) + tuple(spoiled(("x", "y")))
        for bad in bads:
            assert_judged(self, lifted, good, (0, ODD[2], BadHouse), (1, ("c", "a"), BadLot), (2, bad, BadNames),
                          (3, when("d", X, X), BadLine))
        for bad in STRANGE:
            assert_judged(self, lifted, good, (1, bad if bad not in ((), ("a",)) else None, BadLot), (3, bad, BadLine))
        # What is caught comes behind all other errors.
        with self.assertRaises(BadNames):
            lifted(AB, ("a",), ("c", "d"), C)
        for house in HOUSES + (random_house(dice_of(1145), 3),):
            with self.assertRaises(Caught):
                lifted(house, house[1][:1], ("c",), C)


if __name__ == "__main__":
    unittest.main()

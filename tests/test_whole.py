"""Points 180 and 2: all roads tell the same, and nothing hangs on how a line is written."""

import unittest

from manybuilds.askings import asking, is_asking, least_askings
from manybuilds.books import book, shows, shows_where
from manybuilds.composing import put_together, right_by
from manybuilds.conditions import how_many, within
from manybuilds.cubes import reasons
from manybuilds.desk import Desk
from manybuilds.enough import differences, enough_lots
from manybuilds.fences import fence, is_fence
from manybuilds.forks import told_words
from manybuilds.interfaces import interface
from manybuilds.intorun import answered, lifted, moved_in
from manybuilds.keying import is_key, key_clashes, least_keys
from manybuilds.least import least
from manybuilds.lines import builds, same_builds, same_where
from manybuilds.linetexts import text_of
from manybuilds.linking import linked
from manybuilds.marking import lots_of, tallies
from manybuilds.merging import clashes
from manybuilds.moving import moved
from manybuilds.pages import page_text
from manybuilds.parts import link_errors, right_where
from manybuilds.readings import due, reading
from manybuilds.replacing import may_replace
from manybuilds.rules import further_rule
from manybuilds.running import run
from manybuilds.stepping import after, lost
from manybuilds.ties import free, good_where, joined_where, ties
from manybuilds.weighing import weights
from tests.helpers import (
    AB, HOUSES, NONE, OR, YES, assert_told, decided, dice_of, line_text, num, plus, random_house, random_line, slow_all, slow_build,
    slow_builds, slow_condition_text, slow_holds, slow_label, slow_let, slow_line_rows, slow_parts, slow_paths, when)
from tests.slow_parts import random_part, random_parts
from tests.test_books import lines, show
from tests.test_marking import MEASURES
from tests.test_moving import slow_come
from tests.test_parts import give, part
from tests.test_stepping import steps_of


def just(house, setting):
    """The house that lets this setting alone, if the house lets it."""
    rule = house[2]
    for s in house[1]:
        rule = ("and", rule, ("is", s) if s in setting else ("not", ("is", s)))
    return ("house", house[1], rule)


def pushed(line, choices=()):
    """The line with all choices pushed in as far as they go: at each node those that were above it."""
    if line[0] == "choice":
        one, other = [pushed(part, choices) for part in line[2:]]
        return merged_at(line[1], one, other)
    return slow_label(line) + tuple(pushed(part, choices) for part in slow_parts(line))


def merged_at(s, one, other):
    """A choice of the two that stands only where they are unlike."""
    if one == other:
        return one
    if slow_label(one) == slow_label(other) and one[0] != "choice":
        return slow_label(one) + tuple(merged_at(s, mine, yours) for mine, yours in zip(slow_parts(one), slow_parts(other)))
    return when(s, one, other)


def other_ways(dice, house, line):
    """Lines alike the line, each written another way."""
    yield decided(house, slow_builds(house, line))
    yield pushed(line)
    yield least(house, line)
    s = dice.choice(house[1])
    yield when(s, line, pushed(line))
    told = line
    for _ in range(3):
        path = dice.choice(list(slow_paths(told)))
        told = moved(house, told, ("double", path, dice.choice(house[1])))
        told = grown(dice, house, told)
    yield told


def grown(dice, house, line):
    """The line with anything put in where no let setting comes, if there is such a place."""
    for path in slow_paths(line):
        for s in house[1]:
            sides = {s in setting for setting in slow_come(house, line, path)}
            if len(sides) < 2:
                side = "on" if sides <= {True} else "off"
                return moved(house, line, ("grow", path, s, side, random_line(dice, house[1], 4)))
    return line


def ways(seed, many, size=10):
    """Houses, lines, and other lines alike these."""
    dice = dice_of(seed)
    houses = HOUSES + tuple(random_house(dice, dice.randint(2, 4)) for _ in range(4))
    for house, line, _ in lines(seed, many, size):
        for other in other_ways(dice, house, line):
            yield house, line, other
    for house in houses:
        line = random_line(dice, house[1], 12, 0.6)
        for other in other_ways(dice, house, line):
            yield house, line, other


class TestOneNormalForm(unittest.TestCase):
    def test_ways_are_alike_and_differ(self):
        unlike = 0
        for house, line, other in ways(1801, 2):
            self.assertIs(same_builds(house, line, other), True)
            unlike += line != other
        self.assertGreater(unlike, 100)

    def test_least_lines_and_builds(self):
        for house, line, other in ways(1802, 2):
            self.assertEqual(least(house, other), least(house, line))
            self.assertEqual(builds(house, other), builds(house, line))
            self.assertEqual((enough_lots(house, other), differences(house, other)), (enough_lots(house, line), differences(house, line)))
            assert_told(self, house, same_where(house, line, other), slow_let(house))

    def test_shows_keys_and_askings(self):
        for house, line, other in ways(1803, 3):
            for function in (shows, least_keys, key_clashes, least_askings, asking):
                self.assertEqual(function(house, other), function(house, line), function)
            assert_told(self, house, shows_where(house, line, other), slow_let(house))
            self.assertEqual(book(house, other)[0], book(house, line)[0])
            for most in range(3):
                self.assertEqual(fence(house, other, most), fence(house, line, most))

    def test_good_settings_and_free_names(self):
        for house, line, other in ways(1804, 3):
            for function in (good_where, free):
                self.assertEqual(function(house, other), function(house, line), function)
            for terms in (("number", ()), ((), "truth"), ("number", "truth")):
                self.assertEqual(joined_where(house, other, *terms), joined_where(house, line, *terms))
            self.assertEqual(further_rule(house, other, "needs")[0], further_rule(house, line, "needs")[0])

    def test_tallies_and_what_they_hang_on(self):
        for house, line, other in ways(1805, 2, 8):
            for measure in MEASURES:
                self.assertEqual(tallies(house, other, measure), tallies(house, line, measure))
            if len(lots_of(house, other)) <= 20:
                self.assertIsNotNone(weights(house, lots_of(house, other), tallies(house, line, ("sum",))))

    def test_lines_that_are_not_alike(self):
        dice = dice_of(1806)
        for house, line, _ in lines(1807, 3, 10):
            other = random_line(dice, house[1], 6)
            self.assertIs(least(house, line) == least(house, other), slow_builds(house, line) == slow_builds(house, other))

    def test_steps_and_moves_into_the_run(self):
        dice = dice_of(1808)
        for house, line, other in ways(1809, 1, 8):
            if len(house[1]) > 1:
                step = dice.choice(steps_of(house))
                new_house, new = after(house, line, step)
                self.assertIs(same_builds(new_house, new, after(house, other, step)[1]), True)
                self.assertEqual(lost(house, other, step), lost(house, line, step))
            names, told = moved_in(house, other, house[1])
            self.assertEqual(lifted(house, house[1], names, told), other)
            for setting in slow_let(house):
                self.assertEqual(run(answered(house, house[1], names, setting, told)), run(slow_build(line, setting)))

    def test_parts(self):
        for house, line, other in ways(1810, 1, 8):
            # Free sets are shut in.
            line, other = [("let", "x", num(1), ("let", "y", num(2), each)) for each in (line, other)]
            one, two = [part(give("z", each)) for each in (line, other)]
            self.assertEqual(interface(house, one), interface(house, two))
            self.assertEqual(link_errors(house, (one,)), link_errors(house, (two,)))
            if how_many(house, right_where(house, (one,))):
                right = ("house", house[1], right_where(house, (one,)))
                self.assertIs(same_builds(right, linked(house, (one,), "z"), linked(house, (two,), "z")), True)

    def test_readings_and_desks(self):
        for house, line, other in ways(1811, 1, 8):
            pages = [page_text(house, text_of(house, each)) for each in (line, other)]
            pages.append(page_text(house, "\n".join(slow_line_rows(other))))
            found = [reading(house, "\n".join(page.split("\n")[2:])) for page in pages]
            self.assertEqual(found[1:], found[:1] * 2)
            desks = [Desk(page) for page in pages]
            for said in ("read", "faults", "line", "kinds", "shows", "askings", "keys", "run a", "run -"):
                told = [desk.say(said) for desk in desks]
                self.assertEqual(told[1:], told[:1] * 2)
            self.assertEqual(desks[0].say("kinds"),
                             slow_condition_text(good_where(house, line)) if slow_let(house) else "none")


def held_in(thing, setting):
    """The rows of the thing whose conditions hold, without these."""
    return tuple(row[:-1] for row in thing if slow_holds(row[-1], setting))


class TestEachBuildByItself(unittest.TestCase):
    """What is told by conditions is what is told in the house that lets one setting alone."""

    def cases(self, seed, many):
        for house, line, dice in lines(seed, many, 10):
            for setting in slow_let(house):
                yield house, line, setting, just(house, setting), dice

    def assert_alike(self, function, house, alone, setting, *args):
        """The two conditions are the same for the setting."""
        told, single = function(house, *args), function(alone, *args)
        self.assertIs(slow_holds(told, setting), how_many(alone, single) == 1, (function, house, setting, args))

    def assert_rows_alike(self, function, house, alone, setting, *args):
        self.assertEqual(held_in(function(house, *args), setting), tuple(row[:-1] for row in function(alone, *args)))

    def test_lines(self):
        for house, line, setting, alone, dice in self.cases(1821, 3):
            other = random_line(dice, house[1], 5)
            for function in (builds, shows, free, ties):
                self.assert_rows_alike(function, house, alone, setting, line)
            self.assert_alike(good_where, house, alone, setting, line)
            self.assert_alike(joined_where, house, alone, setting, line, "number", ())
            for function in (same_where, shows_where):
                self.assert_alike(function, house, alone, setting, line, other)
            told = [(path, held_in(row, setting)) for path, row in book(house, line)]
            self.assertEqual(told, [(path, tuple(pair[:1] for pair in row)) for path, row in book(alone, line)])
            # A build has one result, so nothing needs to be asked for.
            self.assertEqual((least_askings(alone, line), least_keys(alone, line)), (0, ((),)))

    def test_texts(self):
        for house, line, setting, alone, dice in self.cases(1822, 2):
            text = line_text(dice, house, line)
            self.assert_rows_alike(due, house, alone, setting, text, dice.randint(0, len(told_words(house, text))))
            words = [(word, slow_holds(condition, setting)) for word, condition in told_words(house, text)]
            self.assertEqual(words, [(word, how_many(alone, condition) == 1) for word, condition in told_words(alone, text)])
            _, good, faults = reading(house, text)
            single = reading(alone, text)
            self.assertIs(slow_holds(good, setting), how_many(alone, single[1]) == 1)
            self.assertEqual(held_in(faults, setting), tuple(row[:-1] for row in single[2]))
            if single[0] is not None:
                self.assertEqual(slow_build(reading(house, text)[0], setting), single[0])

    def test_parts(self):
        dice = dice_of(1823)
        for house in HOUSES * 2:
            parts = random_parts(dice, house, dice.randint(1, 3))
            other = random_part(dice, house, 3)
            faces = tuple(interface(house, each) for each in parts)
            for setting in slow_let(house):
                alone = just(house, setting)
                self.assert_rows_alike(link_errors, house, alone, setting, parts)
                self.assert_alike(right_where, house, alone, setting, parts)
                self.assert_alike(may_replace, house, alone, setting, parts[0], other)
                single = tuple(interface(alone, each) for each in parts)
                for face, known in list(zip(faces, single)) + [(put_together(house, faces), put_together(alone, single))]:
                    self.assertIs(slow_holds(face[1], setting), how_many(alone, known[1]) == 1)
                    for rows, others in zip(face[2:], known[2:]):
                        self.assertEqual(held_in(rows, setting), tuple(row[:-1] for row in others))
                self.assertIs(slow_holds(right_by(house, faces), setting), how_many(alone, right_by(alone, single)) == 1)

    def test_merges(self):
        for house, line, setting, alone, dice in self.cases(1824, 1):
            self.assert_alike(clashes, house, alone, setting, line, random_line(dice, house[1], 5), random_line(dice, house[1], 5))


class TestRoadsMeet(unittest.TestCase):
    def test_conditions_that_are_told_are_plain_ones_of_let_settings(self):
        for house, line, _ in lines(1831, 3, 10):
            told = [good_where(house, line), shows_where(house, line, num(1))]
            told += [row[-1] for rows in (builds(house, line), shows(house, line), ties(house, line)) for row in rows]
            told += [condition for _, row in book(house, line) for _, condition in row]
            for condition in told:
                self.assertEqual(within(house, condition), condition)

    def test_a_fence_or_a_tree(self):
        for house, line, _ in lines(1832, 3, 10):
            for most in range(4):
                tree, found = asking(house, line), fence(house, line, most)
                if tree is not None:
                    self.assertIs(is_asking(house, line, tree), True)
                    self.assertIs(found is None, least_askings(house, line) <= most)
                if found is not None:
                    self.assertIs(is_fence(house, line, most, found), True)

    def test_reasons_of_what_is_shown_and_keys(self):
        """The switches of all reasons for all results are a key."""
        for house, line, _ in lines(1833, 4, 10):
            named = {s for _, condition in shows(house, line) for cube in reasons(house, condition) for side in cube for s in side}
            self.assertIs(is_key(house, line, tuple(s for s in house[1] if s in named)), True)

    def test_good_builds_that_ask_for_nothing_are_never_stuck(self):
        for house, line, _ in lines(1834, 4, 14):
            line = ("let", "x", num(1), ("let", "y", num(2), line))
            asked = [condition for _, condition in free(house, line)]
            for result, condition in shows(house, line):
                for setting in slow_all(house):
                    if slow_holds(condition, setting) and slow_holds(good_where(house, line), setting):
                        if not any(slow_holds(each, setting) for each in asked):
                            self.assertEqual(result[1][0], "ends")

    def test_by_hand(self):
        pulled = when("a", plus(num(1), show(num(3))), plus(num(2), show(num(4))))
        pushed_in = plus(when("a", num(1), num(2)), show(when("a", num(3), num(4))))
        self.assertEqual(pushed(pulled), pushed_in)
        self.assertEqual(least(AB, pulled), least(AB, pushed_in))
        self.assertEqual(shows(OR, pulled), shows(OR, pushed_in))
        # In a house that lets none all lines are alike.
        self.assertEqual(least(NONE, pulled), least(NONE, num(7)))
        self.assertEqual(shows(NONE, pulled), ())
        # What a rule lets counts: behind it both switches are one.
        same = ("house", ("a", "b"), ("split", "a", ("is", "b"), ("not", ("is", "b"))))
        by_b = when("b", pulled[2], pulled[3])
        for function in (least, builds, shows, least_keys, asking, good_where):
            self.assertEqual(function(same, pulled), function(same, by_b))
        self.assertIs(same_builds(("house", ("a", "b"), YES), pulled, by_b), False)


if __name__ == "__main__":
    unittest.main()

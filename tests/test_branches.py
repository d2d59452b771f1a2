"""Point 26, and what point 28 says of it: fewest branches."""

import functools
import itertools
import unittest

from manybuilds.branches import fewest_branches, unshared
from manybuilds.errors import BadHouse, BadRows, BadText
from manybuilds.forks import told_words
from manybuilds.readings import reading
from manybuilds.surroundings import acts
from tests.helpers import (
    AB, HOUSES, NO, NONE, OR, SEVEN, STRANGE, assert_judged, dice_of, line_text, random_house, random_line, random_text,
    slow_condition_text, slow_let, slow_told, slow_where)
from tests.test_forks import EXAMPLE


def branches_in(text):
    """How many branches the forks of a text have."""
    return len([row for row in text.split("\n") if row.split()[:1] in (["only"], ["other"])])


def branch_of_words(text):
    """For each told word the number of the innermost branch around it, None without one."""
    found, around, many = [], [], 0
    for row in text.split("\n"):
        words = row.split()
        if words[:1] in (["only"], ["other"]):
            around = (around if words[0] == "only" else around[:-1]) + [many]
            many += 1
        elif words[:1] == ["over"]:
            around.pop()
        else:
            found += [around[-1] if around else None] * len(words)
    return found


def word_masks(house, text):
    """For each told word the let settings for which it stands, as a number."""
    told = slow_told(house, text)
    masks = [0] * len(told)
    for at, setting in enumerate(slow_let(house)):
        for index, _ in slow_where(told, setting):
            masks[index] |= 1 << at
    return masks


def slow_fewest(masks, let):
    """The fewest branches that tell words with these masks, with all ways to begin and to end branches tried."""
    @functools.lru_cache(None)
    def fewest(rest, around):
        if not rest:
            return 0
        found = [fewest(rest[1:], around)] if rest[0] == around else []
        for many in range(1, len(rest) + 1):
            inside = functools.reduce(lambda one, other: one | other, rest[:many])
            for mask in range(around):
                if mask & around == mask and inside & mask == inside:
                    found.append(1 + fewest(rest[:many], mask) + fewest(rest[many:], around))
        return min(found, default=1000)
    return fewest(tuple(mask for mask in masks if mask), let)


def texts(seed, many, houses=HOUSES, words=7):
    dice = dice_of(seed)
    for house in houses + tuple(random_house(dice, dice.randint(1, 3)) for _ in range(6)):
        for _ in range(many):
            if dice.random() < 0.3:
                yield house, line_text(dice, house, random_line(dice, house[1], dice.randint(1, 9))), dice
            else:
                yield house, random_text(dice, house, dice.randint(0, words), dice.randint(0, 5), random_line(dice, (), 4)), dice


class TestByHand(unittest.TestCase):
    def test_example(self):
        self.assertEqual(branches_in(EXAMPLE), 3)
        self.assertEqual(branches_in(fewest_branches(OR, EXAMPLE)), 3)
        self.assertEqual(told_words(OR, fewest_branches(OR, EXAMPLE)), told_words(OR, EXAMPLE))
        found = unshared(OR, EXAMPLE)
        self.assertEqual(len(found), 3)
        self.assertIn(found[0], (4, 5, 6))
        self.assertEqual(found[1], 7)
        self.assertIn(found[2], (8, 9))

    def test_without_forks(self):
        for text in ("", "1 2", "x\n\ny"):
            self.assertEqual(branches_in(fewest_branches(AB, text)), 0)
            self.assertEqual(unshared(AB, text), ())
            self.assertEqual(told_words(AB, fewest_branches(AB, text)), told_words(AB, text))

    def test_forks_for_all_and_for_none(self):
        text = "only yes\n1\nover\nonly no\n2\nother\n3\nover\nonly b\nonly not b\n4\nover\nover"
        found = fewest_branches(AB, text)
        self.assertEqual(branches_in(found), 0)
        self.assertEqual([word for word, _ in told_words(AB, found) if word in "13"], ["1", "3"])
        self.assertEqual(unshared(AB, text), ())

    def test_one_branch_around_others(self):
        # The words of a alone go on behind those of both.
        text = "only a\n1\nover\nonly both a and b\n2\nover\nonly a\n3\nover"
        self.assertEqual(branches_in(fewest_branches(AB, text)), 2)
        self.assertEqual(unshared(AB, text), (0, 1))
        # They do not, where other settings come between.
        text = "only a\n1\nover\nonly b\n2\nover\nonly a\n3\nover"
        self.assertEqual(branches_in(fewest_branches(AB, text)), 3)
        self.assertEqual(unshared(AB, text), (0, 1, 2))
        text = "only a\n1\nover\n2\nonly a\n3\nover"
        self.assertEqual(unshared(AB, text), (0, 2))

    def test_words_that_never_stand_come_between(self):
        text = "only a\n1\nover\nonly no\n2\nover\nonly a\n3\nover"
        self.assertEqual(branches_in(fewest_branches(AB, text)), 1)
        self.assertEqual(unshared(AB, text), (0,))

    def test_both_sides_of_a_fork_are_two(self):
        text = "only a\n1\nother\n2\nover"
        self.assertEqual(branches_in(fewest_branches(AB, text)), 2)
        self.assertEqual(unshared(AB, text), (0, 1))

    def test_let_settings_alone_count(self):
        house = ("house", ("a", "b"), ("split", "a", ("is", "b"), ("not", ("is", "b"))))
        text = "only a\n1\nover\nonly b\n2\nover\nonly both a and b\n3\nover\nonly either a or not b\n4\nover"
        self.assertEqual(branches_in(fewest_branches(house, text)), 1)
        self.assertEqual(branches_in(fewest_branches(AB, text)), 4)

    def test_no_let_setting(self):
        text = "only a\n1\nother\n2\nover\n3"
        self.assertEqual(branches_in(fewest_branches(NONE, text)), 0)
        self.assertEqual(unshared(NONE, text), ())

    def test_words_of_fork_rows(self):
        text = "x only\nonly a\nx over\ny other\nover\nx other"
        self.assertEqual(told_words(AB, fewest_branches(AB, text)), told_words(AB, text))


class TestAgainstSlow(unittest.TestCase):
    def assert_twin(self, house, text, twin):
        """The same words with the same conditions, but for some that stand for no let setting."""
        rest = list(told_words(house, twin))
        for pair in told_words(house, text):
            if rest and rest[0] == pair:
                rest.pop(0)
            else:
                self.assertEqual(pair[1], NO)
        self.assertEqual(rest, [])

    def test_a_twin_with_the_fewest_branches(self):
        saved = 0
        for house, text, _ in texts(121, 25):
            twin = fewest_branches(house, text)
            self.assert_twin(house, text, twin)
            many = branches_in(twin)
            self.assertLessEqual(many, branches_in(text))
            saved += many < branches_in(text)
            if len(slow_let(house)) < 5:
                let = (1 << len(slow_let(house))) - 1
                self.assertEqual(many, slow_fewest(word_masks(house, text), let), text)
        self.assertGreater(saved, 60)

    def test_unshared(self):
        for house, text, _ in texts(122, 25):
            found = unshared(house, text)
            masks = word_masks(house, text)
            let = (1 << len(slow_let(house))) - 1
            self.assertEqual(len(found), branches_in(fewest_branches(house, text)))
            self.assertEqual(list(found), sorted(set(found)))
            for at in found:
                self.assertNotIn(masks[at], (0, let))
                # A word that stands for not all let settings is of a branch in each text that tells it.
                self.assertIsNotNone(branch_of_words(text)[at])
            for one, other in itertools.combinations(found, 2):
                # What is of one branch has like settings, and all between stands within these.
                between = masks[one:other + 1]
                self.assertFalse(masks[one] == masks[other] and all(mask & masks[one] == mask for mask in between))

    def test_no_two_are_of_one_branch_in_twins_at_hand(self):
        for house, text, dice in texts(123, 12):
            found = unshared(house, text)
            doubled = text.replace("only ", "only both yes and ")
            for twin in (text, doubled, with_more_branches(dice, house, text)):
                of = branch_of_words(twin)
                self.assertEqual(len({of[at] for at in found}), len(found))
                self.assertNotIn(None, [of[at] for at in found])

    def test_fewest_of_fewest(self):
        for house, text, _ in texts(124, 4):
            twin = fewest_branches(house, text)
            self.assertEqual(fewest_branches(house, twin), twin)
            self.assertEqual(acts(house, twin), acts(house, text))
            self.assertEqual(reading(house, twin)[:2], reading(house, text)[:2])

    def test_seven_switches(self):
        rows = []
        for s in SEVEN[1]:
            rows += [f"only {s}", s, "other", s + s, "over"]
        text = "\n".join(rows + ["1"] + rows)
        twin = fewest_branches(SEVEN, text)
        self.assertEqual(told_words(SEVEN, twin), told_words(SEVEN, text))
        self.assertEqual(branches_in(twin), 28)

    def test_long_texts(self):
        text = "\n".join(["only a", "1", "over"] * 600)
        self.assertEqual(branches_in(fewest_branches(AB, text)), 1)
        text = "\n".join(["only a", "1", "over", "2"] * 500)
        self.assertEqual(branches_in(fewest_branches(AB, text)), 500)
        self.assertEqual(len(unshared(AB, text)), 500)


def with_more_branches(dice, house, text):
    """The text with each row of words in a branch of its own, within those that it is in."""
    rows = []
    for row in text.split("\n"):
        words = row.split()
        if words and words[0] not in ("only", "other", "over") and dice.random() < 0.7:
            rows += ["only " + slow_condition_text(("yes",)), row, "over"]
        else:
            rows.append(row)
    return "\n".join(rows)


class TestRefused(unittest.TestCase):
    def test_errors_in_their_order(self):
        for function in (fewest_branches, unshared):
            assert_judged(self, function, (AB, "1"), (0, (), BadHouse), (1, None, BadText), (1, "over", BadRows))
            for bad in STRANGE:
                with self.assertRaises(BadHouse):
                    function(bad, "1")
                if not isinstance(bad, str):
                    with self.assertRaises(BadText):
                        function(AB, bad)
            with self.assertRaises(BadRows) as caught:
                function(AB, "only a\n1\n")
            self.assertEqual(caught.exception.at, 3)


if __name__ == "__main__":
    unittest.main()

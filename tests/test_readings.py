"""Point 22, and what point 28 says of it: what is read, what is wrong where, and what is due."""

import itertools
import unittest

from manybuilds.conditions import settings
from manybuilds.errors import BadHouse, BadIndex, BadRows, BadText
from manybuilds.forks import words_where
from manybuilds.least import least
from manybuilds.readings import due, reading
from manybuilds.running import run
from tests.helpers import (
    AB, HOUSES, KEPT_WORDS, NO, NONE, ONE, OR, SEVEN, SMALL, STRANGE, WORDS, YES, assert_judged, assert_told, decided, dice_of,
    is_read, line_text, num, plus, random_house, random_line, random_text, slow_build, slow_builds, slow_first, slow_holds,
    slow_let, slow_line_rows, slow_read, slow_told, slow_where, when)
from tests.test_forks import A, B, EXAMPLE, NOT_A

E = "an expression"
N = "a name"


def slow_faults(house, text):
    """For each let setting its expression, or the index and the want where its words fail."""
    told = slow_told(house, text)
    found = {}
    for setting in slow_let(house):
        standing = slow_where(told, setting)
        outcome = slow_read([word for _, word in standing])
        if not isinstance(outcome[0], str):
            at, want = outcome
            outcome = (standing[at][0] if at < len(standing) else len(told), want)
        found[setting] = outcome
    return found


def texts(seed, many, houses=HOUSES):
    """Houses and texts: some of lines, whole or spoiled, some of words cut by forks anywhere."""
    dice = dice_of(seed)
    for house in houses + tuple(random_house(dice, dice.randint(1, 4)) for _ in range(10)):
        for _ in range(many):
            line = random_line(dice, house[1], dice.randint(1, 9))
            yield house, line_text(dice, house, line), dice
            tree = random_line(dice, (), dice.randint(1, 6))
            yield house, random_text(dice, house, dice.randint(0, 8), dice.randint(0, 4), tree), dice


class TestReadingByHand(unittest.TestCase):
    def test_example(self):
        line, good, faults = reading(OR, EXAMPLE)
        x = ("name", "x")
        self.assertEqual(line, ("let", "x", num(3), when("a", plus(x, x), x)))
        self.assertEqual(good, B)
        self.assertEqual(faults, ((9, "the end", ("split", "a", ("split", "b", NO, YES), NO)),))

    def test_each_kind_of_expression(self):
        x = ("name", "x")
        for text, tree in (
                ("0", num(0)), ("7", num(7)), ("10", num(10)), ("999", num(999)), ("yes", ("truth", "yes")),
                ("no", ("truth", "no")), ("x", x), ("let x: 1 in x", ("let", "x", num(1), x)),
                ("set x: 1", ("set", "x", num(1))), ("plus 1 with 2", plus(num(1), num(2))),
                ("less 1 than 2", ("less", num(1), num(2))), ("if yes then 1 else 2", ("if", ("truth", "yes"), num(1), num(2))),
                ("show 1", ("show", num(1))), ("first 1 next 2", ("then", num(1), num(2))),
                ("plus plus 1 with 2 with show\n3", plus(plus(num(1), num(2)), ("show", num(3)))),
                ("first show 1\n\nnext if less 1 than 2 then set abcdefgh: 5 else no",
                 ("then", ("show", num(1)), ("if", ("less", num(1), num(2)), ("set", "abcdefgh", num(5)), ("truth", "no"))))):
            self.assertEqual(reading(AB, text), (tree, YES, ()), text)

    def test_figures(self):
        for word in ("00", "01", "007", "1000", "0001", "-1", "+1", "1_0", "1:", "1a", "9999999", "1.0"):
            self.assertEqual(reading(AB, word), (None, NO, ((0, E, YES),)), word)

    def test_names(self):
        for word in ("a", "b", "abcdefgh", "z", "yess"):
            self.assertEqual(reading(AB, word)[0], ("name", word))
            self.assertEqual(reading(AB, f"set {word}: 1")[0], ("set", word, num(1)))
        for word in ("abcdefghi", "A", "a1", "a-b", ":", "x:", "a:b", "_") + tuple(set(KEPT_WORDS) - {"yes", "no"}):
            if word not in ("let", "set", "plus", "less", "if", "show", "first", "only", "other", "over"):
                self.assertEqual(reading(AB, word), (None, NO, ((0, E, YES),)), word)
        for word in ("x", ":", "abcdefghi:", "A:", "x::", "in:", "let:", "1:", "x :", "yes:", "over:"):
            self.assertEqual(reading(AB, f"set {word} 1"), (None, NO, ((1, N, YES),)), word)

    def test_faults(self):
        for text, at, want in (
                ("", 0, E), (" \n", 0, E), ("plus", 1, E), ("plus 1", 2, "with"), ("plus 1 than", 2, "with"), ("1 2", 1, "the end"),
                ("let", 1, N), ("let x: 1 2", 3, "in"), ("if yes 1", 2, "then"), ("if yes then 1", 4, "else"),
                ("first 1 then", 2, "next"), ("less 1 with", 2, "than"), ("show in", 1, E), ("set x", 1, N), ("with", 0, E),
                ("1 or", 1, "the end"), ("show\nlet: 1", 1, E)):
            self.assertEqual(reading(AB, text), (None, NO, ((at, want, YES),)), text)

    def test_indexes_count_words_that_do_not_stand(self):
        text = "only a\nshow show\nother\n1\nover\nonly b\n2\nother\n3 4\nover"
        self.assertEqual(reading(AB, text)[2], (
            (3, "the end", ("split", "a", NO, B)), (4, "the end", ("split", "a", NO, ("split", "b", NO, YES))),
            (5, "the end", ("split", "a", ("split", "b", NO, YES), NO))))

    def test_faults_ascend_by_index_then_want(self):
        text = "only a\nplus 1\nother\nif 1\nover\nonly b\nor\nover"
        self.assertEqual(reading(AB, text)[2], (
            (4, "then", ("split", "a", NO, B)), (4, "with", ("split", "a", B, NO)),
            (5, "then", ("split", "a", NO, ("split", "b", NO, YES))), (5, "with", ("split", "a", ("split", "b", NO, YES), NO))))

    def test_no_let_setting(self):
        self.assertEqual(reading(NONE, "1"), (None, NO, ()))
        self.assertEqual(reading(NONE, "plus"), (None, NO, ()))
        self.assertEqual(reading(NONE, "only a\n1\nover"), (None, NO, ()))

    def test_the_line_is_least_for_good_settings_alone(self):
        text = "only a\n1\nother\nonly b\n2\nother\nor\nover\nover"
        self.assertEqual(reading(AB, text), (when("a", num(1), num(2)), ("split", "a", YES, B),
                                             ((2, E, ("split", "a", NO, ("split", "b", NO, YES))),)))


class TestReadingAgainstSlow(unittest.TestCase):
    def test_reading(self):
        goods = bads = 0
        for house, text, _ in texts(81, 5):
            line, good, faults = reading(house, text)
            expected = slow_faults(house, text)
            trees = {setting: tree for setting, tree in expected.items() if isinstance(tree[0], str)}
            assert_told(self, house, good, list(trees))
            self.assertEqual(line, least((house[0], house[1], good), decided(house, trees)) if trees else None)
            self.assertEqual([fault[:2] for fault in faults], sorted(set(expected.values()) - set(trees.values())))
            for at, want, condition in faults:
                assert_told(self, house, condition, [s for s, outcome in expected.items() if outcome == (at, want)])
            goods += len(trees)
            bads += len(expected) - len(trees)
        self.assertGreater(goods, 150)
        self.assertGreater(bads, 150)

    def test_the_least_line_by_a_search_of_its_own(self):
        for house, text, _ in texts(82, 3, SMALL):
            trees = {s: tree for s, tree in slow_faults(house, text).items() if isinstance(tree[0], str)}
            if trees:
                self.assertEqual(reading(house, text)[0], slow_first(house, trees))

    def test_each_setting_by_itself(self):
        for house, text, _ in texts(83, 3):
            line, good, faults = reading(house, text)
            for setting in settings(house):
                words = words_where(house, text, setting)
                alone = reading(ONE, " ".join(words))
                places = [condition for _, _, condition in faults if slow_holds(condition, setting)]
                if slow_holds(good, setting):
                    self.assertEqual(places, [])
                    self.assertEqual(alone[0], slow_build(line, setting))
                    self.assertEqual(alone[1:], (YES, ()))
                    run(alone[0])
                else:
                    self.assertEqual(len(places), 1)
                    self.assertIsNone(alone[0])

    def test_lines_are_read(self):
        dice = dice_of(84)
        for house in HOUSES:
            for _ in range(8):
                line = random_line(dice, house[1], dice.randint(1, 12))
                text = "\n".join(slow_line_rows(line))
                told, good, faults = reading(house, text)
                self.assertEqual(faults, ())
                assert_told(self, house, good, slow_let(house))
                if slow_let(house):
                    self.assertEqual(told, least(house, line))

    def test_seven_switches(self):
        line = num(0)
        for s in SEVEN[1]:
            line = plus(when(s, num(1), ("show", num(2))), line)
        text = "\n".join(slow_line_rows(line))
        self.assertEqual(reading(SEVEN, text), (line, YES, ()))
        self.assertEqual(slow_builds(SEVEN, line)[()][1], ("show", num(2)))

    def test_long_texts(self):
        self.assertEqual(reading(AB, "plus " * 2000), (None, NO, ((2000, E, YES),)))
        self.assertEqual(reading(AB, "1 " * 5000), (None, NO, ((1, "the end", YES),)))
        self.assertEqual(due(AB, "plus " * 2000, 3), (((E, "with", E, "with", E, "with", E), YES),))


class TestDue(unittest.TestCase):
    def test_by_hand(self):
        self.assertEqual(due(OR, EXAMPLE, 0), (((E,), ("split", "a", YES, B)),))
        self.assertEqual(due(OR, EXAMPLE, 1), (((N, E, "in", E), ("split", "a", YES, B)),))
        self.assertEqual(due(OR, EXAMPLE, 2), (((E, "in", E), ("split", "a", YES, B)),))
        self.assertEqual(due(OR, EXAMPLE, 5), (((E,), ("split", "a", NO, B)), ((E, "with", E), A)))
        self.assertEqual(due(OR, EXAMPLE, 8), (((), B), ((E,), ("split", "a", ("split", "b", NO, YES), NO))))
        self.assertEqual(due(OR, EXAMPLE, 10), (((), B),))
        self.assertEqual(due(AB, "1 2", 2), ())
        self.assertEqual(due(AB, "1 2", 1), (((), YES),))
        self.assertEqual(due(NONE, "plus", 1), ())

    def test_what_each_word_puts_in_its_place(self):
        for word, wants in (("let", (N, E, "in", E)), ("set", (N, E)), ("plus", (E, "with", E)), ("less", (E, "than", E)),
                            ("if", (E, "then", E, "else", E)), ("show", (E,)), ("first", (E, "next", E)), ("1", ()),
                            ("yes", ()), ("no", ()), ("x", ())):
            self.assertEqual(due(ONE, word, 1), ((wants, YES),))
        self.assertEqual(due(ONE, "plus let x: 1", 4), ((("in", E, "with", E), YES),))

    def test_the_order_of_first_settings(self):
        self.assertEqual(due(AB, "only b\n1\nother\nshow\nover", 2), (((E,), ("split", "b", NO, YES)), ((), B)))
        self.assertEqual(due(AB, "only b\nshow\nother\n1\nover", 2), (((), ("split", "b", NO, YES)), ((E,), B)))

    def test_against_slow(self):
        for house, text, dice in texts(85, 3):
            told = slow_told(house, text)
            for at in range(len(told) + 1):
                expected = {}
                for setting in slow_let(house):
                    words = [word for index, word in slow_where(told, setting) if index < at]
                    # Each want is found by what is wanted next when a plain word stands for each one ahead.
                    wants, filled, outcome = [], list(words), slow_read(words)
                    while not isinstance(outcome[0], str) and outcome[0] == len(filled):
                        wants.append(outcome[1])
                        filled.append({E: "0", N: "x:"}.get(outcome[1], outcome[1]))
                        outcome = slow_read(filled)
                    if isinstance(outcome[0], str):
                        expected.setdefault(tuple(wants), []).append(setting)
                found = due(house, text, at)
                self.assertEqual([wants for wants, _ in found], list(expected))
                for wants, condition in found:
                    assert_told(self, house, condition, expected[wants])

    def test_due_alike_exactly_if_further_words_are_read_alike(self):
        further = [" ".join(words) for many in range(5) for words in itertools.product(
            ("1", "x:", "with", "than", "in", "else", "next", "then"), repeat=many)]
        dice = dice_of(86)
        for _ in range(60):
            text = random_text(dice, AB, dice.randint(1, 4), dice.randint(1, 3), random_line(dice, (), 4))
            at = dice.randint(0, len(slow_told(AB, text)))
            dues = {setting: wants for wants, condition in due(AB, text, at)
                    for setting in slow_let(AB) if slow_holds(condition, setting)}
            told = slow_told(AB, text)
            ahead = {setting: [word for index, word in slow_where(told, setting) if index < at] for setting in slow_let(AB)}
            reads = {setting: [words for words in further if is_read(ahead[setting] + words.split())] for setting in ahead}
            for one, other in itertools.combinations(dues, 2):
                if max(len(dues[one]), len(dues[other])) < 5:
                    self.assertIs(dues[one] == dues[other], reads[one] == reads[other], text)
            for setting in set(ahead) - set(dues):
                self.assertEqual(reads[setting], [])

    def test_bad_index(self):
        for at in range(11):
            due(OR, EXAMPLE, at)
        for bad in (-1, 11, 10 ** 8, True, False, None, "1", (1,), [1], b"1"):
            with self.assertRaises(BadIndex):
                due(OR, EXAMPLE, bad)
        for at in (0, False):
            if at is False:
                with self.assertRaises(BadIndex):
                    due(AB, "", at)
            else:
                self.assertEqual(due(AB, "", at), (((E,), YES),))
        with self.assertRaises(BadIndex):
            due(AB, "", 1)


class TestRefused(unittest.TestCase):
    def test_errors_in_their_order(self):
        assert_judged(self, reading, (AB, "1"), (0, (), BadHouse), (1, None, BadText), (1, "over", BadRows))
        assert_judged(self, due, (AB, "1", 0), (0, (), BadHouse), (1, None, BadText), (1, "over", BadRows), (2, 2, BadIndex))

    def test_wrong_values(self):
        for bad in STRANGE:
            if not isinstance(bad, str):
                with self.assertRaises(BadText):
                    reading(AB, bad)
                with self.assertRaises(BadText):
                    due(AB, bad, 0)
            with self.assertRaises(BadHouse):
                reading(bad, "1")
            if type(bad) is not int or bad not in (0, 1):
                with self.assertRaises(BadIndex):
                    due(AB, "1", bad)
        for text, at in (("only a", 1), ("x\nover", 1), ("only c\nover", 0)):
            for function in (lambda: reading(AB, text), lambda: due(AB, text, 0), lambda: due(AB, text, None)):
                with self.assertRaises(BadRows) as caught:
                    function()
                self.assertEqual(caught.exception.at, at)

    def test_words_for_tests_are_of_all_kinds(self):
        self.assertEqual({slow_read([word])[1] for word in WORDS if not is_read([word])}, {E, N})
        self.assertIn(NOT_A, [condition for _, condition in due(AB, "only a\n1\nover", 1)])


if __name__ == "__main__":
    unittest.main()

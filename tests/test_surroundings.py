"""Point 24: the acts of texts, and what parts one text from another one."""

import itertools
import unittest

from manybuilds.errors import BadHouse, BadRows, BadText
from manybuilds.pieces import act
from manybuilds.readings import reading
from manybuilds.surroundings import acts, parting
from tests.helpers import (
    AB, HOUSES, NO, NONE, OR, SEVEN, SMALL, STRANGE, YES, assert_judged, assert_told, dice_of, is_read, random_house,
    random_condition, random_line, random_text, slow_condition_text, slow_let, slow_line_rows, slow_told, slow_where)
from tests.test_forks import A, B, EXAMPLE

E = "an expression"
N = "a name"
READ = ((E,), ())


def standing(house, text, setting):
    return [word for _, word in slow_where(slow_told(house, text), setting)]


def slow_acts(house, text):
    """For each let setting the act of its standing words."""
    return {setting: act(" ".join(standing(house, text, setting))) for setting in slow_let(house)}


def texts(seed, many, houses=HOUSES):
    dice = dice_of(seed)
    for house in houses + tuple(random_house(dice, dice.randint(1, 3)) for _ in range(6)):
        for _ in range(many):
            yield house, some_text(dice, house), dice


PIECES = ("", "show", "plus 1 with", "1", "let x:", "if yes then", "0 with", "then", "else 2", "x: 1 in", "first 1 next", "or")


def some_text(dice, house):
    """Some words, at times out of an expression with another piece in the place of one of its own for some settings."""
    if dice.random() < 0.3:
        return random_text(dice, house, dice.randint(0, 5), dice.randint(0, 3), random_line(dice, (), dice.randint(1, 6)))
    words = " ".join(slow_line_rows(random_line(dice, (), dice.randint(1, 5)))).split()
    first = dice.randint(0, len(words))
    last = dice.randint(first, len(words))
    ahead = dice.choice((words[:first], words[max(0, first - 2):first]))
    behind = dice.choice((words[last:], words[last:last + 2]))
    condition = slow_condition_text(random_condition(dice, house[1], dice.randint(1, 3)))
    rows = [" ".join(ahead), "only " + condition, " ".join(words[first:last]), "other", dice.choice(PIECES), "over"]
    return "\n".join(rows + [" ".join(behind)])


def same_acts_text(dice, house, text):
    """Another text, with the same acts for all let settings where words were made longer."""
    rows = text.split("\n")
    at = dice.randint(0, len(rows))
    return "\n".join(rows[:at] + ["only " + slow_condition_text(("no",)), "or or", "other", "", "over"] + rows[at:])


class TestActs(unittest.TestCase):
    def test_by_hand(self):
        a_alone = ("split", "a", ("split", "b", NO, YES), NO)
        self.assertEqual(acts(OR, EXAMPLE), ((READ, B), (None, a_alone)))
        self.assertEqual(acts(AB, "only a\nplus x with\nover"), ((((), ()), ("split", "a", NO, YES)), (((E,), (E,)), A)))
        self.assertEqual(acts(AB, ""), ((((), ()), YES),))
        self.assertEqual(acts(NONE, "x"), ())
        self.assertEqual(acts(AB, "only b\nthen\nother\nor\nover"),
                         ((None, ("split", "b", NO, YES)), ((("then", E, "else", E), (E, "else", E)), B)))

    def test_against_slow(self):
        several = 0
        for house, text, _ in texts(101, 12):
            expected = slow_acts(house, text)
            found = acts(house, text)
            self.assertEqual([known for known, _ in found], list(dict.fromkeys(expected.values())))
            for known, condition in found:
                assert_told(self, house, condition, [s for s, other in expected.items() if other == known])
            several += len(found) > 1
        self.assertGreater(several, 30)

    def test_read_where_the_act_is_to_read(self):
        for house, text, _ in texts(102, 4):
            self.assertEqual(dict(acts(house, text)).get(READ, NO), reading(house, text)[1])

    def test_one_in_the_place_of_the_other(self):
        """Texts of equal acts are read alike among any rows; a fork around them changes nothing."""
        for house, text, dice in texts(103, 4):
            other = same_acts_text(dice, house, text)
            self.assertEqual(acts(house, other), acts(house, text))
            self.assertIsNone(parting(house, text, other))
            for _ in range(3):
                ahead, behind = some_text(dice, house), some_text(dice, house)
                around = dice.choice(("{}\n{}\n{}", "{}\nonly not " + house[1][0] + "\n{}\nover\n{}"))
                self.assertEqual(reading(house, around.format(ahead, text, behind))[1],
                                 reading(house, around.format(ahead, other, behind))[1])

    def test_long_texts(self):
        rows = []
        for s in SEVEN[1]:
            rows += [f"only {s}", "show", "over"]
        self.assertEqual(acts(SEVEN, "\n".join(rows))[0][0], ((), ()))
        self.assertEqual(len(acts(SEVEN, "\n".join(rows))), 2)


class TestParting(unittest.TestCase):
    def assert_parts(self, house, one, other, found):
        ahead, behind, setting = found
        self.assertIn(setting, slow_let(house))
        for text in (ahead, behind):
            self.assertEqual(len(slow_told(house, text)), len(text.split()))
            self.assertTrue(all(not around for _, around in slow_told(house, text)))
        outcomes = []
        for text in (one, other):
            whole = "\n".join([ahead, text, behind])
            outcomes.append(is_read(standing(house, whole, setting)))
            condition = reading(house, whole)[1]
            self.assertIs(outcomes[-1], setting in [s for s in slow_let(house) if dict_holds(condition, s)])
        self.assertNotEqual(outcomes[0], outcomes[1])
        return len(ahead.split()) + len(behind.split())

    def test_by_hand(self):
        self.assertIsNone(parting(AB, "show", "plus 3 with"))
        self.assertIsNone(parting(NONE, "show", "3"))
        self.assertIsNone(parting(AB, "or", "4 5"))
        self.assertEqual(parting(AB, "3", "")[:2], ("", ""))
        self.assertEqual(self.assert_parts(AB, "", "show", parting(AB, "", "show")), 1)
        self.assertEqual(self.assert_parts(AB, "with", "than", parting(AB, "with", "than")), 3)
        self.assertEqual(self.assert_parts(AB, "or", "in", parting(AB, "or", "in")), 4)
        self.assertEqual(self.assert_parts(AB, "only a\nover", "only a\nshow\nover", parting(AB, "only a\nover", "only a\nshow\nover")), 1)
        self.assertEqual(parting(AB, "1\nonly a\nother\nover", "1\nonly a\n2\nover")[2], ("a",))

    def test_needs_of_one_within_those_of_the_other(self):
        # What one does the other does, too, but the other can stand at more.
        self.assertEqual(self.assert_parts(AB, "", "show", parting(AB, "", "show")), 1)
        self.assertEqual(self.assert_parts(AB, "show", "", parting(AB, "show", "")), 1)

    def test_against_slow(self):
        """No fewer words part the two: all that are as many as one less are tried."""
        words = ("0", "x:", "in", "with", "then", "else", "let", "set", "plus", "if", "show")
        rows = {many: list(itertools.product(words, repeat=many)) for many in range(4)}
        parted = 0
        for house, text, dice in texts(104, 8, SMALL):
            other = dice.choice((some_text(dice, house), same_acts_text(dice, house, text)))
            found = parting(house, text, other)
            mine, yours = slow_acts(house, text), slow_acts(house, other)
            self.assertIs(found is None, mine == yours)
            self.assertIs(found is None, acts(house, text) == acts(house, other))
            if found is None:
                continue
            many = self.assert_parts(house, text, other, found)
            parted += 1
            pairs = {(tuple(standing(house, text, s)), tuple(standing(house, other, s))) for s in mine if mine[s] != yours[s]}
            for fewer in range(min(many, 4)):
                for at in range(fewer + 1):
                    for ahead, behind in itertools.product(rows[at], rows[fewer - at]):
                        for one, another in pairs:
                            self.assertEqual(is_read(ahead + one + behind), is_read(ahead + another + behind))
        self.assertGreater(parted, 20)

    def test_single_words(self):
        """Each pair of short rows without forks, with all words ahead and behind that are fewer."""
        words = ("0", "x:", "with", "than", "then", "else", "let", "set", "if", "or")
        house = ("house", ("a",), YES)
        for one, other in itertools.combinations([""] + list(words) + ["then 0", "0 with", "x: 0"], 2):
            found = parting(house, one, other)
            if act(one) == act(other):
                self.assertIsNone(found)
                continue
            many = self.assert_parts(house, one, other, found)
            for fewer in range(min(many, 4)):
                for row in itertools.product(words + ("plus", "less"), repeat=fewer):
                    for at in range(fewer + 1):
                        self.assertEqual(is_read(list(row[:at]) + one.split() + list(row[at:])),
                                         is_read(list(row[:at]) + other.split() + list(row[at:])))

    def test_what_one_does_where_the_other_does_it_too(self):
        """The longer one needs more, and leaves as much more: just where it cannot stand are they unlike."""
        for one, other in (("3", "3 with plus 4"), ("", "with plus 4"), ("show", "3 in let x: 1"), ("x: 3", "x: 3 than less 4"),
                           ("with", "with 3 next first 1"), ("then", "then 3 else 4 in let x: if"), ("plus", "3 with plus")):
            for pair in ((one, other), (other, one)):
                many = self.assert_parts(AB, *pair, parting(AB, *pair))
                for fewer in range(min(many, 4)):
                    for row in itertools.product(("0", "x:", "in", "with", "than", "next", "if", "plus", "let", "first"), repeat=fewer):
                        for at in range(fewer + 1):
                            self.assertEqual(is_read(list(row[:at]) + one.split() + list(row[at:])),
                                             is_read(list(row[:at]) + other.split() + list(row[at:])))

    def test_one_of_several_settings(self):
        """The setting for which the fewest words are enough is told."""
        one = "only a\nwith\nother\n1\nover"
        other = "only a\nthan\nother\nshow\nover"
        self.assertEqual(self.assert_parts(AB, one, other, parting(AB, one, other)), 0)
        self.assertNotIn("a", parting(AB, one, other)[2])


def dict_holds(condition, setting):
    while condition[0] == "split":
        condition = condition[2] if condition[1] in setting else condition[3]
    return condition == YES


class TestRefused(unittest.TestCase):
    def test_errors_in_their_order(self):
        assert_judged(self, acts, (AB, "1"), (0, (), BadHouse), (1, None, BadText), (1, "over", BadRows))
        assert_judged(self, parting, (AB, "1", "2"), (0, (), BadHouse), (1, None, BadText), (1, "over", BadRows),
                      (2, None, BadText), (2, "over", BadRows))

    def test_bad_rows_of_each(self):
        for values, at in (((AB, "x\nover", "only a"), 1), ((AB, "only a", "over"), 1), ((AB, "x", "x\n\nover"), 2)):
            with self.assertRaises(BadRows) as caught:
                parting(*values)
            self.assertEqual(caught.exception.at, at)

    def test_wrong_values(self):
        for bad in STRANGE:
            with self.assertRaises(BadHouse):
                acts(bad, "1")
            with self.assertRaises(BadHouse):
                parting(bad, "1", "2")
            if not isinstance(bad, str):
                for function, values in ((acts, (AB, bad)), (parting, (AB, bad, "over")), (parting, (AB, "1", bad))):
                    with self.assertRaises(BadText):
                        function(*values)


if __name__ == "__main__":
    unittest.main()

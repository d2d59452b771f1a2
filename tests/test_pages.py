"""Point 27: pages."""

import itertools
import unittest

from manybuilds.errors import BadHouse, BadRows, BadText
from manybuilds.pages import page_text, read_page
from tests.helpers import (
    AB, HOUSES, KEPT_WORDS, NO, NONE, OR, SEVEN, STRANGE, YES, assert_judged, dice_of, random_house, random_line, random_text,
    slow_condition, slow_told)
from tests.test_forks import EXAMPLE, bad_row


class TestByHand(unittest.TestCase):
    def test_page_text(self):
        self.assertEqual(page_text(OR, EXAMPLE), "switches a b\nrule either a or b\n" + EXAMPLE)
        self.assertEqual(page_text(AB, ""), "switches a b\nrule yes\n")
        self.assertEqual(page_text(AB, " x \n\n"), "switches a b\nrule yes\n x \n\n")
        self.assertEqual(page_text(NONE, "1"), "switches a b\nrule both a and not a\n1")

    def test_read_page(self):
        self.assertEqual(read_page("switches a b\nrule either a or b\n" + EXAMPLE), (OR, EXAMPLE))
        self.assertEqual(read_page("switches a\nrule yes\n"), (("house", ("a",), YES), ""))
        self.assertEqual(read_page("switches b a\nrule no\n\n"), (("house", ("b", "a"), NO), "\n"))

    def test_other_blanks(self):
        self.assertEqual(read_page("  switches  a   b \n rule   not  a \n  1  "),
                         (("house", ("a", "b"), ("not", ("is", "a"))), "  1  "))

    def test_one_and_seven_switches(self):
        for switches in ("z", "a b c d e f g", "abcdefgh b"):
            house, text = read_page(f"switches {switches}\nrule yes\nx")
            self.assertEqual(house, ("house", tuple(switches.split()), YES))
            self.assertEqual(text, "x")
        for count in (1, 7):
            house = ("house", SEVEN[1][:count], ("is", "g"))
            self.assertEqual(read_page(page_text(house, "1")), (house, "1"))


class TestThereAndBack(unittest.TestCase):
    def test_pages_of_houses_and_texts(self):
        dice = dice_of(141)
        for house in HOUSES + (SEVEN,) + tuple(random_house(dice, dice.randint(1, 7)) for _ in range(40)):
            for _ in range(4):
                text = random_text(dice, house, dice.randint(0, 8), dice.randint(0, 4), random_line(dice, (), 6))
                page = page_text(house, text)
                self.assertEqual(read_page(page), (house, text))
                rows = page.split("\n")
                self.assertEqual(rows[0].split(" "), ["switches"] + list(house[1]))
                self.assertEqual(rows[1].split(" "), rows[1].split())
                self.assertEqual(slow_condition(house[1], rows[1].split()[1:]), house[2])
                self.assertEqual("\n".join(rows[2:]), text)


class TestBadRows(unittest.TestCase):
    def assert_bad(self, page, at):
        with self.assertRaises(BadRows) as caught:
            read_page(page)
        self.assertEqual(caught.exception.at, at, page)

    def test_the_first_row(self):
        for row in ("", "switches", "switch a", "a b", "switches a a", "switches A", "switches a1", "switches abcdefghi",
                    "switches a b c d e f g h", "switches a:", "switches a, b", "rule yes", "x switches a", "Switches a"):
            for rest in ("", "\nrule yes\n", "\nrule yes\n1", "\nover\nover"):
                self.assert_bad(row + rest, 0)
        for word in KEPT_WORDS:
            self.assert_bad(f"switches a {word}\nrule yes\n1", 0)

    def test_the_second_row(self):
        for row in ("", "rule", "yes", "rules yes", "rule c", "rule a b", "rule not", "rule yes no", "x rule yes", "switches a",
                    "rule when a take b", "rule a and b"):
            for rest in ("", "\n1", "\nover"):
                self.assert_bad("switches a b\n" + row + rest, 1)

    def test_too_few_rows(self):
        self.assert_bad("", 0)
        self.assert_bad("switches a", 1)
        self.assert_bad("switches a\n", 1)
        self.assert_bad("switches a\nrule a", 2)
        self.assert_bad(" switches a \n rule a ", 2)

    def test_the_rows_of_the_text(self):
        start = "switches a b\nrule yes\n"
        self.assert_bad(start + "over", 2)
        self.assert_bad(start + "1\nonly c\nover", 3)
        self.assert_bad(start + "only a\nother\nother\nover", 4)
        self.assert_bad(start + "only a", 3)
        self.assert_bad(start + "1\nonly a\n\n", 6)
        self.assert_bad(start + "only a\nonly b\nover", 5)

    def test_against_slow(self):
        kinds = ("only a", "other", "over", "x", "only b")
        house = ("house", ("a",), YES)
        for many in range(1, 5):
            for rows in itertools.product(kinds, repeat=many):
                page = "\n".join(("switches a", "rule yes") + rows)
                expected = bad_row(house, list(rows))
                if expected is None:
                    self.assertEqual(read_page(page), (house, "\n".join(rows)))
                else:
                    self.assert_bad(page, expected + 2)


class TestRefused(unittest.TestCase):
    def test_errors_in_their_order(self):
        assert_judged(self, read_page, ("switches a\nrule yes\n",), (0, None, BadText), (0, "over", BadRows))
        assert_judged(self, page_text, (AB, "1"), (0, (), BadHouse), (1, None, BadText), (1, "over", BadRows))
        with self.assertRaises(BadRows) as caught:
            page_text(AB, "1\nonly a\n")
        self.assertEqual(caught.exception.at, 3)
        self.assertIsNone(slow_told(AB, "1\nonly a\n"))

    def test_wrong_values(self):
        for bad in STRANGE + ("switches a\nrule yes\n\t", "switches a\r\nrule yes\n"):
            if not isinstance(bad, str) or len(bad) > 9:
                with self.assertRaises(BadText):
                    read_page(bad)
                with self.assertRaises(BadText):
                    page_text(AB, bad)
            with self.assertRaises(BadHouse):
                page_text(bad, "1")


if __name__ == "__main__":
    unittest.main()

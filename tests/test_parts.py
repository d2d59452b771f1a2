"""Point 60: parts, and where they are linked right."""

import unittest

from manybuilds.errors import BadHouse, BadParts
from manybuilds.parts import is_part, link_errors, right_where
from tests.helpers import (
    AB, HOUSES, NO, NONE, ONE, OR, SEVEN, STRANGE, YES, assert_judged, assert_told, deep, dice_of, num, plus, random_house,
    spoiled, when)
from tests.slow_parts import random_parts, slow_errors, slow_right
from tests.test_forks import A, B, NOT_A
from tests.test_ties import FALSE, TRUE

X, Y, Z, W = [("name", x) for x in "xyzw"]
# The parts of point 65.
EXAMPLE = ("part", (("give", "x", YES, plus(Y, num(1))), ("keep", "z", ("is", "a"), ("if", W, Y, X))))
GIVER = ("part", (("give", "y", YES, num(2)),))
SHORT = ("part", EXAMPLE[1][:1])


def part(*rows):
    return ("part", rows)


def give(x, line, condition=YES):
    return ("give", x, condition, line)


def keep(x, line, condition=YES):
    return ("keep", x, condition, line)


class TestIsPart(unittest.TestCase):
    def test_parts(self):
        for thing in (EXAMPLE, GIVER, part(), part(give("x", num(1)), give("x", TRUE)), part(keep("x", X)),
                      part(keep("x", num(1), ("is", "a")), keep("x", num(2), ("not", ("is", "a")))),
                      part(give("x", ("let", "y", num(1), ("set", "y", num(2))))),
                      part(give("x", ("let", "y", num(1), ("plus", ("let", "u", ("set", "y", Y), Y), Y)))),
                      part(give("x", when("a", X, ("then", Y, num(1))), ("split", "a", NO, YES)))):
            self.assertIs(is_part(ONE, thing), True, thing)
            self.assertIs(is_part(NONE, thing), True, thing)

    def test_no_parts(self):
        for thing in STRANGE + (
                ("part",), ("part", ()) * 2, ("parts", ()), ("part", [], ()), ("part", num(1)), (give("x", num(1)),),
                part(()), part(give("x", num(1)), ()), part(give("x", num(1))[:3]), part(give("x", num(1)) + (num(1),)),
                part(give("if", num(1))), part(give("X", num(1))), part(give("abcdefghi", num(1))), part(give(1, num(1))),
                part(give("x", num(1000))), part(give("x", 1)), part(give("x", num(1), ("is", "q"))),
                part(give("x", when("q", num(1), num(2)))), part(("take", "x", YES, num(1))), part((True, "x", YES, num(1))),
                part(give("x", num(True))), deep(60), part(deep(50))):
            self.assertIs(is_part(ONE, thing), False, thing)

    def test_free_sets(self):
        setter = ("set", "y", num(1))
        for line in (setter, plus(num(1), setter), when("a", num(1), setter), ("let", "y", setter, num(1)),
                     ("let", "x", num(1), setter), ("then", ("let", "y", num(1), Y), setter), ("set", "x", X),
                     ("let", "x", num(1), ("let", "y", setter, Y))):
            self.assertIs(is_part(ONE, part(give("x", line))), False, line)
            self.assertIs(is_part(ONE, part(give("x", ("let", "y", num(1), ("let", "x", num(1), line))))), True, line)

    def test_a_name_has_rows_of_one_kind(self):
        for rows in ((give("x", num(1)), keep("x", num(1))), (keep("x", num(1), A), give("x", num(1), NOT_A)),
                     (give("x", num(1)), give("y", num(1)), keep("y", num(2)), give("x", num(1)))):
            self.assertIs(is_part(ONE, part(*rows)), False)
            self.assertIs(is_part(ONE, part(*(("keep",) + row[1:] for row in rows))), True)

    def test_spoiled(self):
        for thing in (EXAMPLE, part(keep("x", ("let", "y", num(1), ("set", "y", num(2)))))):
            for wrong in spoiled(thing):
                self.assertIs(is_part(ONE, wrong), False, wrong)

    def test_wrong_house(self):
        assert_judged(self, is_part, [ONE, EXAMPLE], (0, "house", BadHouse))


class TestLinkErrors(unittest.TestCase):
    def test_example(self):
        self.assertEqual(link_errors(ONE, (EXAMPLE, GIVER)), ((("lacks", 0, "w"), A),))
        self.assertEqual(right_where(ONE, (EXAMPLE, GIVER)), NOT_A)
        self.assertEqual(link_errors(ONE, (SHORT, GIVER)), ())
        self.assertEqual(right_where(ONE, (SHORT, GIVER)), YES)

    def test_no_parts(self):
        self.assertEqual(link_errors(OR, ()), ())
        assert_told(self, OR, right_where(OR, ()), [("b",), ("a",), ("a", "b")])
        self.assertEqual(link_errors(OR, (part(), part())), ())

    def test_a_house_that_lets_none(self):
        wrong = part(give("x", plus(TRUE, X)), give("x", num(1)))
        self.assertEqual(link_errors(NONE, (wrong, wrong)), ())
        self.assertEqual(right_where(NONE, (wrong, wrong)), NO)

    def test_twice(self):
        for tag in (give, keep):
            rows = (tag("x", num(1), A), tag("x", num(2)))
            self.assertEqual(link_errors(ONE, (part(), part(*rows))), ((("twice", 1, "x"), A),))
        # Rows of one name that stand in different settings.
        self.assertEqual(link_errors(ONE, (part(give("x", num(1), A), give("x", TRUE, NOT_A)),)), ())
        # Rows that stand in no let setting.
        self.assertEqual(link_errors(ONE, (part(give("x", num(1), NO), give("x", plus(X, TRUE), NO)),)), ())
        self.assertEqual(link_errors(("house", ("a",), ("is", "a")), (part(give("x", W, NOT_A)),)), ())

    def test_both(self):
        parts = (part(give("x", num(1), A)), part(give("x", num(2))), part(give("x", num(3), B)))
        self.assertEqual(link_errors(AB, parts), ((("both", "x"), ("split", "a", YES, ("split", "b", YES, NO))),))
        # A kept name clashes with none, and is found first.
        parts = (part(give("x", num(1))), part(keep("x", TRUE), give("y", ("less", num(1), ("if", X, num(1), num(2))))))
        self.assertEqual(link_errors(AB, parts), ())
        # Two rows of one part are twice there, not both.
        self.assertEqual(link_errors(ONE, (part(give("x", num(1)), give("x", num(1))),)), ((("twice", 0, "x"), YES),))

    def test_lacks(self):
        needy = part(give("x", when("a", Y, num(1))))
        self.assertEqual(link_errors(ONE, (needy,)), ((("lacks", 0, "y"), A),))
        self.assertEqual(link_errors(ONE, (needy, part(keep("y", num(1))))), ((("lacks", 0, "y"), A),))
        self.assertEqual(link_errors(ONE, (needy, part(give("y", num(1), NOT_A)))), ((("lacks", 0, "y"), A),))
        self.assertEqual(link_errors(ONE, (needy, part(give("y", num(1), A)))), ())
        # Where the own row does not stand the part needs the name.
        own = part(give("x", plus(Y, num(1))), keep("y", num(1), A))
        self.assertEqual(link_errors(ONE, (own,)), ((("lacks", 0, "y"), NOT_A),))
        self.assertEqual(link_errors(ONE, (own, GIVER)), ())
        # Names that are bound are no free reads.
        self.assertEqual(link_errors(ONE, (part(give("x", ("let", "y", num(1), Y))),)), ())
        self.assertEqual(link_errors(ONE, (part(give("x", ("let", "y", Y, Y))),)), ((("lacks", 0, "y"), YES),))

    def test_ring(self):
        # A row that leans on itself.
        self.assertEqual(link_errors(ONE, (part(give("x", when("a", X, num(1)))),)), ((("ring", 0, "x"), A),))
        self.assertEqual(link_errors(ONE, (part(give("x", ("then", X, num(1)))),)), ((("ring", 0, "x"), YES),))
        # One of another part that leads back through several, each named.
        parts = (part(give("x", Y)), part(give("y", ("then", W, num(1))), give("z", Y)), part(give("w", when("a", X, num(1)))))
        self.assertEqual(link_errors(ONE, parts), (
            (("ring", 0, "x"), A), (("ring", 1, "y"), A), (("ring", 2, "w"), A)))
        # The one way in some settings, the other way in others.
        parts = (part(give("x", when("a", Y, num(1)))), part(give("y", when("a", num(1), X))))
        self.assertEqual(link_errors(ONE, parts), ())
        # Who leans on a ring is in none.
        self.assertEqual(link_errors(ONE, (part(give("x", X), keep("y", X)),)), ((("ring", 0, "x"), YES),))

    def test_clash(self):
        self.assertEqual(link_errors(ONE, (part(give("x", plus(TRUE, num(1)), A)),)), ((("clash",), A),))
        # What needs the ties of several parts.
        parts = (part(give("x", Y)), part(give("y", when("a", TRUE, num(1)))), part(keep("k", plus(X, num(1)))))
        self.assertEqual(link_errors(ONE, parts), ((("clash",), A),))
        self.assertEqual(right_where(ONE, parts[:2]), YES)
        # Names that nobody gives are one term of all parts.
        parts = (part(keep("k", plus(W, num(1)))), part(keep("k", ("if", W, num(1), num(2)), A)))
        self.assertEqual(link_errors(ONE, parts), ((("lacks", 0, "w"), YES), (("lacks", 1, "w"), A), (("clash",), A)))
        # Given by a row that only forgets them, they still are.
        parts += (part(give("w", ("then", num(1), TRUE), NOT_A)),)
        self.assertEqual(link_errors(ONE, parts), ((("lacks", 0, "w"), A), (("lacks", 1, "w"), A), (("clash",), YES)))

    def test_reads_alone_tie_two_rows_of_a_name(self):
        rows = (give("x", num(1)), give("x", TRUE))
        self.assertEqual(link_errors(ONE, (part(*rows),)), ((("twice", 0, "x"), YES),))
        read = rows + (keep("k", when("a", ("show", X), num(1))),)
        self.assertEqual(link_errors(ONE, (part(*read),)), ((("twice", 0, "x"), YES), (("clash",), A)))
        # A read leads to all give rows of other parts.
        parts = (part(rows[0]), part(rows[1]), part(keep("k", X, A)))
        self.assertEqual(link_errors(ONE, parts), ((("both", "x"), YES), (("clash",), A)))

    def test_order(self):
        bad = part(give("y", Y), give("y", plus(TRUE, W)), give("x", W), give("x", num(1)), keep("k", Z))
        found = [error for error, _ in link_errors(AB, (bad, bad))]
        self.assertEqual(found, [
            ("twice", 0, "x"), ("twice", 0, "y"), ("twice", 1, "x"), ("twice", 1, "y"), ("both", "x"), ("both", "y"),
            ("lacks", 0, "w"), ("lacks", 0, "z"), ("lacks", 1, "w"), ("lacks", 1, "z"), ("ring", 0, "y"), ("ring", 1, "y"),
            ("clash",)])

    def test_against_slow(self):
        dice = dice_of(601)
        seen = {}
        for house in HOUSES + tuple(random_house(dice, dice.randint(1, 3)) for _ in range(12)):
            for _ in range(25):
                kept = (("k", "x"),) * 3 if dice.random() < 0.3 else (("k", "l"), ("k", "m"), ("n",))
                parts = random_parts(dice, house, dice.randint(0, 3), kept=kept)
                if not all(is_part(house, each) for each in parts):
                    continue
                expected = slow_errors(house, parts)
                found = link_errors(house, parts)
                self.assertEqual([error for error, _ in found], [error for error, _ in expected], (house, parts))
                for (_, condition), (error, held) in zip(found, expected):
                    assert_told(self, house, condition, held)
                    seen[error[0]] = seen.get(error[0], 0) + 1
                assert_told(self, house, right_where(house, parts), slow_right(house, parts))
        self.assertGreater(min(seen.values()), 20, seen)
        self.assertEqual(len(seen), 5)

    def test_seven_switches_and_many_rows(self):
        rows = tuple(give("x" + "abcdefghijklmnop"[at], ("name", "x" + "bcdefghijklmnopa"[at])) for at in range(15))
        last = give("xp", when("g", num(1), when("f", ("name", "xa"), when("a", TRUE, num(2)))))
        found = dict(link_errors(SEVEN, (part(*rows), part(last))))
        self.assertEqual(set(found), {("ring", 0, "x" + x) for x in "abcdefghijklmno"} | {("ring", 1, "xp")})
        self.assertEqual(set(found.values()), {("split", "g", NO, ("split", "f", YES, NO))})

    def test_wrong_values(self):
        parts = (EXAMPLE, GIVER)
        bads = [EXAMPLE, list(parts), (EXAMPLE, list(GIVER)), (("part", [],),), (GIVER, None), None]
        for function in (link_errors, right_where):
            for bad in bads + [thing for thing in STRANGE if thing != ()]:
                assert_judged(self, function, [ONE, parts], (0, ONE[:2], BadHouse), (1, bad, BadParts))
            assert_judged(self, function, [ONE, ()], (0, None, BadHouse))


if __name__ == "__main__":
    unittest.main()

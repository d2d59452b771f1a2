"""Points 54 and 55, and what point 56 says of them: rows of rules, hulls, and what a form tells."""

import itertools
import unittest

from manybuilds.errors import BadCondition, BadForm, BadHouse, BadLine, BadRow, BadSetting
from manybuilds.rules import further_rule, hull, is_row, is_told_by, keeps, rows_for, told_by
from manybuilds.ties import good_where
from tests.helpers import (
    AB, HOUSES, NO, NONE, ODD, OR, SEVEN, STRANGE, YES, assert_judged, dice_of, is_plain, random_condition, random_house,
    random_line, slow_all, slow_held, slow_holds, slow_let, spoiled)
from tests.test_cubes import exactly
from tests.test_ties import LINE, typed_line

FORMS = ("pairs", "needs", "sums")
JUST_ONE = ("split", "a", ("not", ("is", "b")), ("is", "b"))
PAPER = (("is", ("a",)), ("is", ("b",)), ("from", (0, 1), ()))


def slow_rows(switches, form):
    """All rows of a form."""
    if form == "pairs":
        sides = [(s, way) for s in switches for way in ("on", "off")]
        return [("either", one, other) for one in sides for other in sides
                if one == other or switches.index(one[0]) < switches.index(other[0])]
    lots = [lot for size in range(len(switches) + 1) for lot in itertools.combinations(switches, size)]
    if form == "needs":
        return [("need", lot, t) for lot in lots for t in (None,) + switches if t not in lot]
    return [("sum", lot, way) for lot in lots[1:] for way in ("odd", "even")]


def slow_keeps(row, setting):
    if row[0] == "either":
        return any((s in setting) == (way == "on") for s, way in row[1:])
    if row[0] == "need":
        return not all(s in setting for s in row[1]) or row[2] in setting
    return len([s for s in row[1] if s in setting]) % 2 == (row[2] == "odd")


def slow_made(form, settings):
    """Which switches are on in the setting that comes from two or three."""
    many = {s: sum(s in setting for setting in settings) for setting in settings for s in setting}
    wanted = {"pairs": (2, 3), "needs": (2,), "sums": (1, 3)}[form]
    return {s for s in many if many[s] in wanted}


def slow_closed(house, held, form):
    """All settings that come from these in any number of steps."""
    found = list(held)
    grown = True
    while grown:
        grown = False
        for settings in itertools.product(found, repeat=2 if form == "needs" else 3):
            made = slow_made(form, settings)
            setting = tuple(s for s in house[1] if s in made)
            if setting not in found:
                found.append(setting)
                grown = True
    return found


def slow_kept_by_all(house, held, form):
    return [row for row in slow_rows(house[1], form) if all(slow_keeps(row, setting) for setting in held)]


def slow_is_paper(house, held, form, steps):
    reached = []
    for step in steps:
        if step[0] == "is":
            if step[1] not in held:
                return False
        else:
            if len(step[1]) != (2 if form == "needs" else 3) or not all(0 <= place < len(reached) for place in step[1]):
                return False
            if set(step[2]) != slow_made(form, [reached[place] for place in step[1]]):
                return False
        reached.append(step[-1])
    return bool(steps) and reached[-1] in slow_let(house) and reached[-1] not in held


def cases(seed, many, houses=HOUSES, most=4):
    dice = dice_of(seed)
    for house in houses + tuple(random_house(dice, dice.randint(1, most)) for _ in range(8)):
        for _ in range(many):
            condition = random_condition(dice, house[1], dice.randint(1, 7))
            if dice.random() < 0.4:
                condition = NO
                for setting in dice.sample(slow_all(house), dice.randint(0, min(4, len(slow_all(house))))):
                    condition = ("or", condition, exactly(house[1], setting))
            yield house, condition, dice


class TestRows(unittest.TestCase):
    def test_is_row(self):
        for house in (("house", ("a",), YES), AB, NONE, ODD):
            for form in FORMS:
                rows = slow_rows(house[1], form)
                for other_form in FORMS:
                    for row in rows:
                        self.assertIs(is_row(house, other_form, row), form == other_form, row)

    def test_no_rows(self):
        a_on, b_off = ("a", "on"), ("b", "off")
        for form, rows in (
                ("pairs", (("either", b_off, a_on), ("either", a_on, ("a", "off")), ("either", a_on), ("either", a_on, b_off, a_on),
                           ("either", ("c", "on"), b_off), ("either", a_on, ("b", "yes")), ("or", a_on, b_off), ("either", ("a",), b_off),
                           ("either", ("a", "on", "on"), b_off), ("either", a_on, None), ("either", (), ()), ("either", ("a", True), b_off))),
                ("needs", (("need", ("a",), "a"), ("need", ("b", "a"), None), ("need", ("a", "a"), "b"), ("need", ("c",), "a"),
                           ("need", ("a",), "c"), ("need", ("a",)), ("need", ("a",), "b", "b"), ("needs", ("a",), "b"), ("need", "a", "b"),
                           ("need", None, "a"), ("need", ("a",), ()), ("need", ("a",), ("b",)), ("need", ("a", "b"), "b"),
                           ("need", ("a",), False), ("need", ("a",), 0))),
                ("sums", (("sum", (), "odd"), ("sum", (), "even"), ("sum", ("a",), "on"), ("sum", ("b", "a"), "odd"),
                          ("sum", ("a", "a"), "even"), ("sum", ("a",)), ("sum", ("a",), "odd", 1), ("sums", ("a",), "odd"),
                          ("sum", "a", "odd"), ("sum", ("c",), "odd"), ("sum", ("a",), 1), ("sum", ("a",), None), ("sum", ("a",), True)))):
            for row in rows:
                self.assertIs(is_row(AB, form, row), False, row)
                with self.assertRaises(BadRow):
                    keeps(AB, form, row, ())
        self.assertIs(is_row(AB, "needs", ("need", (), None)), True)
        self.assertIs(is_row(AB, "needs", ("need", (), "a")), True)
        self.assertIs(is_row(AB, "needs", ("need", ("a", "b"), None)), True)
        self.assertIs(is_row(AB, "pairs", ("either", a_on, a_on)), True)

    def test_any_value(self):
        for form, row in (("pairs", ("either", ("a", "on"), ("b", "off"))), ("pairs", ("either", ("a", "on"), ("a", "on"))),
                          ("needs", ("need", ("a",), "b")), ("needs", ("need", (), "b")), ("sums", ("sum", ("a", "b"), "odd"))):
            for thing in STRANGE:
                self.assertIs(is_row(AB, form, thing), False, thing)
            for wrong in spoiled(row):
                if wrong != ("need", ("a",), None) and wrong != ("need", (), None):
                    self.assertIs(is_row(AB, form, wrong), False, wrong)

    def test_keeps_by_hand(self):
        for form, row, kept in (
                ("pairs", ("either", ("a", "on"), ("b", "off")), [(), ("a",), ("a", "b")]),
                ("pairs", ("either", ("b", "off"), ("b", "off")), [(), ("a",)]),
                ("needs", ("need", ("a",), "b"), [(), ("b",), ("a", "b")]), ("needs", ("need", ("a",), None), [(), ("b",)]),
                ("needs", ("need", (), "a"), [("a",), ("a", "b")]), ("needs", ("need", (), None), []),
                ("needs", ("need", ("a", "b"), None), [(), ("b",), ("a",)]),
                ("sums", ("sum", ("a", "b"), "odd"), [("b",), ("a",)]), ("sums", ("sum", ("b",), "even"), [(), ("a",)])):
            for house in (AB, NONE):
                self.assertEqual([setting for setting in slow_all(house) if keeps(house, form, row, setting)], kept)

    def test_keeps_against_slow(self):
        house = ("house", ("d", "c", "b", "a"), ("is", "a"))
        for form in FORMS:
            for row in slow_rows(house[1], form):
                for setting in slow_all(house):
                    self.assertIs(keeps(house, form, row, setting), slow_keeps(row, setting), (row, setting))


class TestHull(unittest.TestCase):
    def hull_of(self, house, condition, form):
        found = hull(house, condition, form)
        self.assertTrue(is_plain(found, house[1]))
        return [setting for setting in slow_all(house) if slow_holds(found, setting)]

    def test_by_hand(self):
        self.assertEqual(hull(AB, JUST_ONE, "needs"), ("split", "a", ("split", "b", NO, YES), YES))
        self.assertEqual(hull(AB, JUST_ONE, "pairs"), ("split", "a", ("split", "b", NO, YES), ("split", "b", YES, NO)))
        self.assertEqual(hull(AB, ("or", ("is", "a"), ("is", "b")), "sums"), YES)
        # Settings that are not let may lie in it.
        self.assertEqual(hull(OR, JUST_ONE, "needs"), ("split", "a", ("split", "b", NO, YES), YES))
        self.assertEqual(hull(OR, YES, "sums"), YES)

    def test_of_no_setting(self):
        for form in FORMS:
            for house, condition in ((AB, NO), (NONE, YES), (OR, ("and", ("not", ("is", "a")), ("not", ("is", "b")))), (SEVEN, NO)):
                self.assertEqual(hull(house, condition, form), NO)
                rows = rows_for(house, condition, form)
                self.assertFalse(any(all(slow_keeps(row, setting) for row in rows) for setting in slow_all(house)))
                for at in range(len(rows)):
                    others = rows[:at] + rows[at + 1:]
                    self.assertTrue(any(all(slow_keeps(row, setting) for row in others) for setting in slow_all(house)))

    def test_by_rows_and_by_steps(self):
        for house, condition, _ in cases(181, 4, most=3):
            held = slow_held(house, condition)
            for form in FORMS:
                found = self.hull_of(house, condition, form)
                rows = slow_kept_by_all(house, held, form)
                self.assertEqual(found, [s for s in slow_all(house) if all(slow_keeps(row, s) for row in rows)])
                if len(house[1]) < 4:
                    self.assertEqual(set(found), set(slow_closed(house, held, form)))

    def test_steps_in_houses_of_four_switches(self):
        house = ("house", ("a", "b", "c", "d"), YES)
        dice = dice_of(182)
        for _ in range(8):
            condition = NO
            for setting in dice.sample(slow_all(house), 3):
                condition = ("or", condition, exactly(house[1], setting))
            for form in FORMS:
                self.assertEqual(set(self.hull_of(house, condition, form)),
                                 set(slow_closed(house, slow_held(house, condition), form)))


class TestRowsFor(unittest.TestCase):
    def test_example(self):
        good = good_where(AB, LINE)
        self.assertEqual(set(rows_for(AB, good, "needs")), {("need", ("a",), None), ("need", ("b",), None)})
        self.assertEqual(rows_for(AB, YES, "needs"), ())
        self.assertEqual(rows_for(AB, JUST_ONE, "sums"), (("sum", ("a", "b"), "odd"),))

    def test_just_the_hull_and_none_without_need(self):
        for house, condition, _ in cases(183, 6):
            for form in FORMS:
                rows = rows_for(house, condition, form)
                inside = [s for s in slow_all(house) if slow_holds(hull(house, condition, form), s)]
                self.assertTrue(all(is_row(house, form, row) for row in rows))
                self.assertEqual([s for s in slow_all(house) if all(slow_keeps(row, s) for row in rows)], inside)
                for at in range(len(rows)):
                    others = rows[:at] + rows[at + 1:]
                    self.assertGreater(len([s for s in slow_all(house) if all(slow_keeps(row, s) for row in others)]), len(inside))
                if form == "sums" and inside:
                    self.assertEqual(2 ** (len(house[1]) - len(rows)), len(inside))

    def test_seven_switches(self):
        for form in FORMS:
            self.assertEqual(rows_for(SEVEN, YES, form), ())
            rows = rows_for(SEVEN, exactly(SEVEN[1], ("g", "a")), form)
            self.assertEqual(len(rows), 7)
            self.assertEqual([s for s in slow_all(SEVEN) if all(keeps(SEVEN, form, row, s) for row in rows)], [("g", "a")])


class TestToldBy(unittest.TestCase):
    def test_example(self):
        self.assertEqual(told_by(AB, good_where(AB, LINE), "needs")[0], "told")
        self.assertEqual(set(further_rule(AB, LINE, "needs")[1]), {("need", ("a",), None), ("need", ("b",), None)})
        tag, paper = told_by(AB, JUST_ONE, "needs")
        self.assertEqual((tag, len(paper), paper[2][2]), ("not", 3, ()))
        self.assertIs(is_told_by(AB, JUST_ONE, "needs", ("not", PAPER)), True)

    def test_just_one_of_rows_and_paper(self):
        counts = {(form, tag): 0 for form in FORMS for tag in ("told", "not")}
        for house, condition, _ in cases(184, 70):
            held = slow_held(house, condition)
            for form in FORMS:
                tag, thing = found = told_by(house, condition, form)
                rows = slow_kept_by_all(house, held, form)
                are_told = [s for s in slow_let(house) if all(slow_keeps(row, s) for row in rows)] == held
                self.assertEqual(tag, "told" if are_told else "not")
                self.assertIs(is_told_by(house, condition, form, found), True)
                counts[form, tag] += 1
                if tag == "told":
                    self.assertTrue(all(is_row(house, form, row) for row in thing))
                    self.assertEqual([s for s in slow_let(house) if all(slow_keeps(row, s) for row in thing)], held)
                else:
                    self.assertTrue(slow_is_paper(house, held, form, thing), (house, condition, form, thing))
                self.assertIs(is_told_by(house, condition, form, ("not" if tag == "told" else "told", thing)), False)
        self.assertGreater(min(counts.values()), 2)

    def test_papers_in_houses_of_seven_switches(self):
        dice = dice_of(185)
        papers = 0
        for _ in range(25):
            condition = NO
            for setting in dice.sample(slow_all(SEVEN), dice.randint(3, 9)):
                condition = ("or", condition, exactly(SEVEN[1], setting))
            for form in FORMS:
                tag, thing = told_by(SEVEN, condition, form)
                self.assertIs(is_told_by(SEVEN, condition, form, (tag, thing)), True)
                if tag == "not":
                    papers += 1
                    self.assertTrue(slow_is_paper(SEVEN, slow_held(SEVEN, condition), form, thing))
        self.assertGreater(papers, 30)

    def test_no_let_setting(self):
        for form in FORMS:
            tag, rows = told_by(NONE, YES, form)
            self.assertEqual(tag, "told")
            self.assertIs(is_told_by(NONE, YES, form, ("told", rows)), True)
            self.assertIs(is_told_by(NONE, YES, form, ("told", ())), True)
            self.assertIs(is_told_by(NONE, YES, form, ("not", PAPER)), False)
            self.assertEqual(told_by(AB, NO, form)[0], "told")
            self.assertIs(is_told_by(AB, NO, form, ("told", ())), False)

    def test_beside_the_rule(self):
        # Where not both are off, that a is on where b is off needs no row of the form.
        self.assertEqual(told_by(OR, YES, "needs")[0], "told")
        self.assertIs(is_told_by(OR, YES, "needs", ("told", ())), True)
        # What comes of let settings must be let itself.
        self.assertEqual(told_by(OR, JUST_ONE, "needs")[0], "told")
        self.assertIs(is_told_by(OR, JUST_ONE, "needs", ("not", PAPER)), False)

    def test_further_rule(self):
        dice = dice_of(186)
        for house in HOUSES:
            for _ in range(5):
                line = dice.choice((random_line(dice, house[1], 12), typed_line(dice, house[1], 16, wrong=0.2)))
                for form in FORMS:
                    found = further_rule(house, line, form)
                    self.assertEqual(found, told_by(house, good_where(house, line), form))
                    self.assertIs(is_told_by(house, good_where(house, line), form, found), True)


class TestIsToldBy(unittest.TestCase):
    def test_papers(self):
        self.assertIs(is_told_by(AB, JUST_ONE, "needs", ("not", PAPER)), True)
        longer = (("is", ("b",)), ("is", ("b",)), ("from", (0, 1), ("b",))) + (("is", ("a",)), ("from", (3, 2), ()))
        self.assertIs(is_told_by(AB, JUST_ONE, "needs", ("not", longer)), True)
        for wrong in (
                (), PAPER[:2], PAPER[1:], PAPER[:2] + (("from", (0, 0), ()),), PAPER[:2] + (("from", (0, 2), ()),),
                PAPER[:2] + (("from", (0, 1, 1), ()),), PAPER[:2] + (("from", (0,), ()),), PAPER[:2] + (("from", (0, 1), ("a",)),),
                (("is", ()),), PAPER[:2] + (("from", (0, -1), ()),), PAPER[:2] + (("is", ()),), PAPER + PAPER[:1],
                PAPER[:2] + (("from", (False, True), ()),), PAPER[:2] + (("from", (0, 1)),), PAPER[:2] + (("from", (0, 1), (), ()),),
                PAPER[:2] + (("comes", (0, 1), ()),), (("was", ("a",)),) + PAPER[1:], ((None, ("a",)),) + PAPER[1:], (("is", ("a",), ("a",)),) + PAPER[1:], (("is", ("c",)),) + PAPER[1:],
                (("is", ("a", "b")),) + PAPER[1:], (("from", (0, 1), ()),) + PAPER[:2], PAPER[:2] + (("from", (1, 2), ()),)):
            self.assertIs(is_told_by(AB, JUST_ONE, "needs", ("not", wrong)), False, wrong)

    def test_steps_of_three(self):
        house = ("house", ("a", "b", "c"), YES)
        condition = NO
        for setting in (("a",), ("b",), ("c",)):
            condition = ("or", condition, exactly(house[1], setting))
        steps = (("is", ("a",)), ("is", ("b",)), ("is", ("c",)))
        self.assertIs(is_told_by(house, condition, "pairs", ("not", steps + (("from", (0, 1, 2), ()),))), True)
        self.assertIs(is_told_by(house, condition, "sums", ("not", steps + (("from", (0, 1, 2), ("a", "b", "c")),))), True)
        for form, made in (("pairs", ("a", "b", "c")), ("sums", ()), ("needs", ())):
            self.assertIs(is_told_by(house, condition, form, ("not", steps + (("from", (0, 1, 2), made),))), False)
        self.assertIs(is_told_by(house, condition, "pairs", ("not", steps + (("from", (0, 1), ()),))), False)

    def test_rows(self):
        rows = (("need", ("a",), None), ("need", ("b",), None))
        good = good_where(AB, LINE)
        self.assertIs(is_told_by(AB, good, "needs", ("told", rows)), True)
        self.assertIs(is_told_by(AB, good, "needs", ("told", rows + rows)), True)
        self.assertIs(is_told_by(AB, good, "needs", ("told", rows[::-1] + (("need", ("a", "b"), None),))), True)
        for wrong in (rows[:1], (), rows + (("need", (), "a"),), list(rows), rows + (None,), rows + (("need", ("b", "a"), None),), None):
            self.assertIs(is_told_by(AB, good, "needs", ("told", wrong)), False, wrong)
        self.assertIs(is_told_by(AB, good, "pairs", ("told", rows)), False)
        self.assertIs(is_told_by(AB, good, "needs", ("not", rows)), False)

    def test_any_value(self):
        rows = ("told", (("need", ("a",), None), ("need", ("b",), None)))
        for thing in STRANGE:
            for form in FORMS:
                self.assertIs(is_told_by(AB, JUST_ONE, form, thing), False, thing)
                self.assertIs(is_told_by(AB, JUST_ONE, form, ("told", thing)), False, thing)
                self.assertIs(is_told_by(AB, JUST_ONE, form, ("not", thing)), False, thing)
        for wrong in spoiled(rows):
            self.assertIs(is_told_by(AB, good_where(AB, LINE), "needs", wrong), False, wrong)
        for wrong in spoiled(("not", PAPER)):
            self.assertIs(is_told_by(AB, JUST_ONE, "needs", wrong), False, wrong)
        for wrong in (("nots", PAPER), ("is", PAPER), (None, PAPER), ("not", PAPER, ()), ("not",), ("", PAPER)):
            self.assertIs(is_told_by(AB, JUST_ONE, "needs", wrong), False, wrong)
        for wrong in (rows + (1,), rows[:1], ("tells", rows[1]), (None, rows[1]), ("told", rows)):
            self.assertIs(is_told_by(AB, good_where(AB, LINE), "needs", wrong), False, wrong)


class TestRefused(unittest.TestCase):
    def test_errors_in_their_order(self):
        row = ("need", ("a",), "b")
        assert_judged(self, is_row, (AB, "needs", row), (0, (), BadHouse), (1, "need", BadForm))
        assert_judged(self, keeps, (AB, "needs", row, ()), (0, (), BadHouse), (1, "need", BadForm), (2, (), BadRow),
                      (3, ("c",), BadSetting))
        for function in (hull, rows_for, told_by):
            assert_judged(self, function, (AB, YES, "sums"), (0, (), BadHouse), (1, (), BadCondition), (2, "sum", BadForm))
        assert_judged(self, is_told_by, (AB, YES, "sums", ()), (0, (), BadHouse), (1, (), BadCondition), (2, "sum", BadForm))
        assert_judged(self, further_rule, (AB, LINE, "sums"), (0, (), BadHouse), (1, (), BadLine), (2, "sum", BadForm))

    def test_a_row_of_another_form(self):
        for form, row in (("pairs", ("need", ("a",), "b")), ("sums", ("either", ("a", "on"), ("b", "on"))), ("needs", ("sum", ("a",), "odd"))):
            with self.assertRaises(BadRow):
                keeps(AB, form, row, ())

    def test_wrong_values(self):
        for bad in STRANGE + (["needs"], ("needs",), b"needs", "Needs", "pair"):
            for function, rest in ((hull, ()), (rows_for, ()), (told_by, ()), (is_told_by, ((),))):
                with self.assertRaises(BadHouse):
                    function(bad, YES, "sums", *rest)
                with self.assertRaises(BadForm):
                    function(AB, YES, bad, *rest)
                if bad != YES:
                    with self.assertRaises(BadCondition):
                        function(AB, bad, "sums", *rest)
            with self.assertRaises(BadForm):
                is_row(AB, bad, ())
            with self.assertRaises(BadForm):
                keeps(AB, bad, (), ())
            with self.assertRaises(BadForm):
                further_rule(AB, LINE, bad)
            with self.assertRaises(BadLine):
                further_rule(AB, bad, "sums")
            with self.assertRaises(BadRow):
                keeps(AB, "needs", bad, ())
            if bad != ():
                with self.assertRaises(BadSetting):
                    keeps(AB, "needs", ("need", ("a",), "b"), bad)


if __name__ == "__main__":
    unittest.main()

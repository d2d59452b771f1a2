"""Point 61, and what point 65 says of it: interfaces."""

import unittest

from manybuilds.errors import BadHouse, BadInterface, BadPart
from manybuilds.interfaces import interface, is_interface, part_with
from manybuilds.parts import is_part
from tests.helpers import (
    AB, HOUSES, NO, NONE, ODD, ONE, OR, STRANGE, YES, assert_judged, dice_of, is_plain, num, plus, random_house, slow_all,
    slow_holds, slow_let, spoiled, when)
from tests.slow_parts import random_part, seam_in, slow_seam
from tests.test_forks import A, NOT_A
from tests.test_parts import EXAMPLE, GIVER, W, X, Y, Z, give, keep, part
from tests.test_ties import TRUE

GIVE_X, GIVE_Y, NEED_X, NEED_Y, NEED_W = ("give", "x"), ("give", "y"), ("need", "x"), ("need", "y"), ("need", "w")
# The interface of point 65.
TOLD = ("interface", NO, (("x", YES),), (("w", A), ("y", YES)), (("x", "y", YES),), (
    ("number", GIVE_X, YES), ("number", NEED_Y, YES), ("truth", NEED_W, A), (GIVE_X, NEED_Y, YES)))
EMPTY = ("interface", NO, (), (), (), ())


def face(gives=(), needs=(), leans=(), joins=(), bad=NO):
    return ("interface", bad, gives, needs, leans, joins)


def is_slow_interface(house, thing):
    """What point 61 says of values of this form, setting by setting, with conditions over all settings."""
    for row in [(thing[1],)] + [row for rows in thing[2:] for row in rows]:
        if not is_plain(row[-1], house[1]):
            return False
        held = [setting for setting in slow_all(house) if slow_holds(row[-1], setting)]
        if len(row) > 1 and not held or any(setting not in slow_let(house) for setting in held):
            return False
    gives, needs, leans, joins = [[row[:-1] for row in rows] for rows in thing[2:]]
    terms = ["number", "truth"] + [("give",) + row for row in gives] + [("need",) + row for row in needs]
    for lot in (gives, needs, leans):
        if lot != sorted(set(lot)):
            return False
    if not all(one in terms and other in terms and one != other for one, other in joins):
        return False
    places = [(terms.index(one), terms.index(other)) for one, other in joins]
    if places != sorted(set(places)) or not all(one < other for one, other in places):
        return False
    return all(is_sound_in(thing, setting) for setting in slow_let(house))


def is_sound_in(thing, setting):
    gives, needs, leans, joins = [[row[:-1] for row in rows if slow_holds(row[-1], setting)] for rows in thing[2:]]
    if slow_holds(thing[1], setting):
        return not gives + needs + leans + joins
    if set(gives) & set(needs) or not all((x,) in gives and (y,) in needs for x, y in leans):
        return False
    terms = ["number", "truth"] + [("give",) + row for row in gives] + [("need",) + row for row in needs]
    if not all(one in terms and other in terms for one, other in joins) or ("number", "truth") in joins:
        return False
    both = joins + [(other, one) for one, other in joins]
    for t, u in both:
        for other, v in both:
            if u == other and t != v and (t, v) not in both:
                return False
    grounds = {x: ["number", "truth"] + [("need", y) for one, y in leans if one == x] for x, in gives}
    return all(any((term, ("give", x)) in both for term in grounds[x]) for x in grounds)


class TestInterface(unittest.TestCase):
    def test_example(self):
        self.assertEqual(interface(ONE, EXAMPLE), TOLD)
        self.assertEqual(interface(ONE, GIVER), face((("y", YES),), (), (), (("number", GIVE_Y, YES),)))

    def test_by_hand(self):
        self.assertEqual(interface(ONE, part()), EMPTY)
        self.assertEqual(interface(ONE, part(give("x", Y))), face(
            (("x", YES),), (("y", YES),), (("x", "y", YES),), ((GIVE_X, NEED_Y, YES),)))
        # What is forgotten is leaned on, but not joined.
        self.assertEqual(interface(ONE, part(give("x", ("then", Y, TRUE)))), face(
            (("x", YES),), (("y", YES),), (("x", "y", YES),), (("truth", GIVE_X, YES),)))
        # Kept rows do not lean for others, and join them.
        self.assertEqual(interface(ONE, part(give("x", num(1)), keep("k", ("if", TRUE, X, Y)))), face(
            (("x", YES),), (("y", YES),), (), (("number", GIVE_X, YES), ("number", NEED_Y, YES), (GIVE_X, NEED_Y, YES))))
        # A given name leans on what is behind a kept one.
        self.assertEqual(interface(ONE, part(give("x", ("name", "k")), keep("k", when("a", Y, num(1))))), face(
            (("x", YES),), (("y", A),), (("x", "y", A),), (("number", GIVE_X, NOT_A), (GIVE_X, NEED_Y, A))))

    def test_a_clash_of_the_part_alone(self):
        self.assertEqual(interface(ONE, part(give("x", plus(when("a", TRUE, num(1)), Y)))), face(
            (("x", NOT_A),), (("y", NOT_A),), (("x", "y", NOT_A),),
            (("number", GIVE_X, NOT_A), ("number", NEED_Y, NOT_A), (GIVE_X, NEED_Y, NOT_A)), A))
        # Of a needed name with itself.
        clash = part(keep("k", plus(Y, num(1))), keep("l", ("if", Y, num(1), num(2))))
        self.assertEqual(interface(ONE, clash), face(bad=YES))
        self.assertEqual(interface(ONE, part(give("x", num(1)), give("x", num(1), A))), face(
            (("x", NOT_A),), (), (), (("number", GIVE_X, NOT_A),), A))
        self.assertEqual(interface(ONE, part(give("x", X))), face(bad=YES))

    def test_rows_in_different_settings(self):
        rows = (give("x", num(1), A), give("x", Y, NOT_A), keep("y", TRUE, A))
        self.assertEqual(interface(ONE, part(*rows)), face(
            (("x", YES),), (("y", NOT_A),), (("x", "y", NOT_A),), (("number", GIVE_X, A), (GIVE_X, NEED_Y, NOT_A))))

    def test_given_here_and_needed_there(self):
        rows = (give("x", num(1), A), keep("k", X))
        self.assertEqual(interface(ONE, part(*rows)), face(
            (("x", A),), (("x", NOT_A),), (), (("number", GIVE_X, A),)))

    def test_no_let_setting(self):
        self.assertEqual(interface(NONE, EXAMPLE), EMPTY)
        self.assertEqual(interface(("house", ("a",), ("is", "a")), part(give("x", X, NOT_A), give("y", num(1), A))), face(
            (("y", A),), (), (), (("number", GIVE_Y, A),)))

    def test_against_slow(self):
        dice = dice_of(611)
        seen = [0, 0, 0, 0]
        for house in HOUSES + tuple(random_house(dice, dice.randint(1, 3)) for _ in range(12)):
            for _ in range(30):
                known = random_part(dice, house, 4, ("k", "l"), size=9)
                told = interface(house, known)
                for setting in slow_let(house):
                    seam = slow_seam(known, setting)
                    self.assertEqual(seam_in(told, setting), seam, (house, known))
                    for at, rows in enumerate(seam or ()):
                        seen[at] += len(rows)
                self.assertIs(is_slow_interface(house, told), True)
        self.assertGreater(min(seen), 100, seen)

    def test_order_of_rows_and_kept_names_do_not_count(self):
        dice = dice_of(612)
        many = 0
        for house in HOUSES:
            for _ in range(30):
                rows = list(random_part(dice, house, 5, ("k", "l"), size=9)[1])
                told = interface(house, ("part", tuple(rows)))
                dice.shuffle(rows)
                self.assertEqual(interface(house, ("part", tuple(rows))), told)
                # Where a kept row does not stand, its name is one that is needed.
                free = [name for name in "kl" if name not in dict(told[3]) and any(row[1] == name for row in rows)]
                names = dict(zip(free, "zk" if free == ["k", "l"] else "z"))
                many += len(free)
                self.assertEqual(interface(house, ("part", tuple(renamed(row, names) for row in rows))), told)
        self.assertGreater(many, 100)

    def test_wrong_values(self):
        for bad in STRANGE + (list(EXAMPLE), ("part", [EXAMPLE]), TOLD):
            assert_judged(self, interface, [ONE, EXAMPLE], (0, ["house"], BadHouse), (1, bad, BadPart))


def renamed(thing, names):
    """The row with other names for kept ones, wherever they stand."""
    if isinstance(thing, tuple) and thing[:1] in (("name",), ("keep",)):
        thing = (thing[0], names.get(thing[1], thing[1])) + thing[2:]
    return tuple(renamed(each, names) for each in thing) if isinstance(thing, tuple) else thing


def changed_faces(dice, house, told):
    """Values of the form of the interface that are unlike it in one row, or in what holds of it."""
    conditions = [YES, NO, A, NOT_A] + [("split", s, YES, NO) for s in house[1]]
    terms = ["number", "truth", GIVE_X, GIVE_Y, NEED_X, NEED_Y, NEED_W]
    for at in range(2, 6):
        rows = list(told[at])
        for place in range(len(rows)):
            yield told[:at] + (tuple(rows[:place] + rows[place + 1:]),) + told[at + 1:]
            for condition in dice.sample(conditions, 2):
                row = rows[place][:-1] + (condition,)
                yield told[:at] + (tuple(rows[:place] + [row] + rows[place + 1:]),) + told[at + 1:]
        more = {2: (dice.choice("xyz"),), 3: (dice.choice("xyw"),), 4: (dice.choice("xy"), dice.choice("xyw")),
                5: (dice.choice(terms), dice.choice(terms))}[at] + (dice.choice(conditions),)
        place = dice.randint(0, len(rows))
        yield told[:at] + (tuple(rows[:place] + [more] + rows[place:]),) + told[at + 1:]
        yield told[:at] + (tuple(rows[::-1]),) + told[at + 1:]
    yield told[:1] + (dice.choice(conditions),) + told[2:]


class TestIsInterface(unittest.TestCase):
    def test_of_parts(self):
        self.assertIs(is_interface(ONE, TOLD), True)
        self.assertIs(is_interface(ONE, EMPTY), True)
        self.assertIs(is_interface(NONE, EMPTY), True)
        self.assertIs(is_interface(ONE, face(bad=A)), True)
        self.assertIs(is_interface(NONE, face(bad=YES)), False)

    def test_form(self):
        for wrong in STRANGE + tuple(spoiled(TOLD)) + (
                TOLD[:5], TOLD + ((),), ("part",) + TOLD[1:], EXAMPLE, face(gives=((YES,),)), face(gives=(("x", YES, YES),)),
                face(needs=(("x",),)), face(joins=((("give", "x", "y"), NEED_Y, YES),)), face(gives=((("x",), YES),)),
                face(joins=((None, None, YES),)), face(leans=((GIVE_X, NEED_Y, YES),)), face(needs=(("x", "y", YES),)),
                face(needs=((YES,),)), face(leans=(("x", YES),)), face(leans=(("x", "y", "z", YES),)), face(joins=(("number", YES),)),
                face(needs=(("y", YES),), joins=(("number", NEED_Y, NEED_Y, YES),)), ()):
            self.assertIs(is_interface(ONE, wrong), False, wrong)

    def test_conditions_are_plain_ones_of_let_settings(self):
        self.assertIs(is_interface(ONE, face(needs=(("x", A),))), True)
        for wrong in (("is", "a"), ("not", NO), ("split", "a", YES, YES), NO, ("split", "b", YES, NO)):
            self.assertIs(is_interface(ONE, face(needs=(("x", wrong),))), False)
            self.assertIs(is_interface(ONE, face(bad=wrong)), wrong == NO)
        let = ("split", "a", YES, ("split", "b", YES, NO))
        self.assertIs(is_interface(OR, face(needs=(("x", let),))), True)
        self.assertIs(is_interface(OR, face(needs=(("x", YES),))), False)
        self.assertIs(is_interface(OR, face(bad=let)), True)
        self.assertIs(is_interface(OR, face(bad=YES)), False)

    def test_names_and_orders(self):
        for names in (("x", "if"), ("x", "X"), ("x", "abcdefghi"), ("y", "x"), ("x", "x"), ("x", "")):
            self.assertIs(is_interface(ONE, face(needs=tuple((name, YES) for name in names))), False)
        for name in ("if", "yes", "X", "abcdefghi", "", "a b", "a1", "a:"):
            self.assertIs(is_interface(ONE, face(needs=((name, YES),))), False, name)
            self.assertIs(is_interface(ONE, face(((name, YES),), joins=(("number", ("give", name), YES),))), False, name)
        self.assertIs(is_interface(ONE, face(needs=(("x", YES), ("y", YES)))), True)
        joins = (("number", NEED_X, YES), ("truth", NEED_Y, YES))
        self.assertIs(is_interface(ONE, face(needs=(("x", YES), ("y", YES)), joins=joins)), True)
        for wrong in (joins[::-1], joins + joins[:1], ((NEED_X, "number", YES),), ((NEED_Y, NEED_X, YES),),
                      ((NEED_X, NEED_X, YES),), (("number", GIVE_X, YES),), (("number", NEED_W, YES),),
                      (("numbers", NEED_X, YES),), (("number", "x", YES),), (("number", ("keep", "x"), YES),)):
            self.assertIs(is_interface(ONE, face(needs=(("x", YES), ("y", YES)), joins=wrong)), False, wrong)

    def test_what_holds_in_each_setting(self):
        x, y = (("x", YES),), (("y", YES),)
        number = (("number", GIVE_X, YES),)
        for right in (face(x, y, (), number), face(x, y, (("x", "y", YES),), ((GIVE_X, NEED_Y, YES),)),
                      face((("x", A),), (("x", NOT_A),), (), (("number", GIVE_X, A),)), face((), y),
                      face((("x", A),), (), (), (("truth", GIVE_X, A),), NOT_A),
                      face(x, y, (("x", "y", A),), (("number", GIVE_X, NOT_A), (GIVE_X, NEED_Y, A)))):
            self.assertIs(is_interface(ONE, right), True, right)
        for wrong in (face(x), face(x, y, (), ((GIVE_X, NEED_Y, YES),)), face(x, x, (), number), face(x, (), (), number, A),
                      face(x, (("x", A),), (), number), face(x, y, (("y", "x", YES),), number),
                      face(x, (("y", A),), (("x", "y", YES),), number), face((("x", A),), (), (), number),
                      face(x, y, (("x", "y", A),), ((GIVE_X, NEED_Y, YES),)), face(x, y, (("x", "w", YES),), number),
                      face(joins=(("number", "truth", YES),)), face((), y, (), (), A), face(x, y, (("x", "x", YES),), number),
                      face(x, y, (), (("number", GIVE_X, YES), ("number", NEED_Y, YES))),
                      face(x, y, (), (("number", GIVE_X, YES), (GIVE_X, NEED_Y, A))),
                      face((), y, (), (("number", NEED_Y, A), ("truth", NEED_Y, A)))):
            self.assertIs(is_interface(ONE, wrong), False, wrong)

    def test_against_slow(self):
        dice = dice_of(613)
        seen = {True: 0, False: 0}
        for house in (ONE, AB, OR, ODD, NONE):
            for _ in range(25):
                told = interface(house, random_part(dice, house, 4, ("k",), size=8))
                for thing in changed_faces(dice, house, told):
                    expected = is_slow_interface(house, thing)
                    self.assertIs(is_interface(house, thing), expected, (house, thing))
                    seen[expected] += 1
        self.assertGreater(min(seen.values()), 100)

    def test_wrong_house(self):
        assert_judged(self, is_interface, [ONE, TOLD], (0, None, BadHouse))


class TestPartWith(unittest.TestCase):
    def assert_has(self, house, told):
        known = part_with(house, told)
        self.assertIs(is_part(house, known), True, known)
        self.assertEqual(interface(house, known), told)

    def test_by_hand(self):
        self.assert_has(ONE, TOLD)
        self.assert_has(ONE, EMPTY)
        self.assert_has(ONE, face(bad=A))
        self.assert_has(NONE, EMPTY)
        self.assert_has(ONE, face((("x", A),), (("x", NOT_A),), (), (("truth", GIVE_X, A),)))
        self.assert_has(ONE, face((("x", YES),), (("w", YES), ("y", YES)), (("x", "w", YES), ("x", "y", A)),
                                  ((GIVE_X, NEED_W, YES),)))
        # Names that might be taken for those that are kept.
        names = tuple((name, YES) for name in "abcdefg")
        self.assert_has(ONE, face(needs=names, bad=NO))

    def test_many_names(self):
        names = [one + other for one in "abcdefghij" for other in "klm"]
        joins = (("number", ("need", names[0]), YES),)
        self.assert_has(ONE, face(needs=tuple((name, YES) for name in names), joins=joins))
        leans = tuple(("x", name, YES) for name in names)
        self.assert_has(ONE, face((("x", YES),), tuple((name, YES) for name in names), leans, (("truth", GIVE_X, YES),)))
        every = tuple(("number", ("need", name), YES) for name in names) + tuple(
            (("need", one), ("need", other), YES) for at, one in enumerate(names) for other in names[at + 1:])
        self.assert_has(ONE, face(needs=tuple((name, YES) for name in names), joins=every))

    def test_of_interfaces_by_chance(self):
        dice = dice_of(614)
        for house in HOUSES + tuple(random_house(dice, dice.randint(1, 4)) for _ in range(8)):
            for _ in range(12):
                told = interface(house, random_part(dice, house, 5, ("k", "l"), size=9))
                self.assertIs(is_interface(house, told), True)
                self.assert_has(house, told)

    def test_of_changed_interfaces(self):
        dice = dice_of(615)
        many = 0
        for house in (ONE, AB, OR):
            for _ in range(15):
                told = interface(house, random_part(dice, house, 4, ("k",), size=8))
                for thing in changed_faces(dice, house, told):
                    if is_interface(house, thing):
                        self.assert_has(house, thing)
                        many += 1
        self.assertGreater(many, 50)

    def test_wrong_values(self):
        for bad in STRANGE + (EXAMPLE, face(needs=[]), face(needs=(("x", NO),)), face(gives=(("x", YES),))):
            assert_judged(self, part_with, [ONE, TOLD], (0, (), BadHouse), (1, bad, BadInterface))
        # What is an interface in one house is none in another one.
        assert_judged(self, part_with, [ONE, TOLD], (0, OR, BadInterface))


class TestUnlike(unittest.TestCase):
    def test_parts_with_one_interface(self):
        one = part(give("x", plus(Y, W)))
        other = part(give("x", ("then", W, ("name", "k"))), keep("k", ("let", "z", Y, plus(Z, num(7)))), keep("l", plus(W, W)))
        self.assertEqual(interface(AB, one), interface(AB, other))


if __name__ == "__main__":
    unittest.main()

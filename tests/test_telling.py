"""Point 91: told builds, patches, reach and offers."""

import functools
import itertools
import unittest

from manybuilds.errors import BadHouse, BadLine, BadPatch, BadSetting, BadTold, Clash, TooMany
from manybuilds.patching import between, edited
from manybuilds.telling import is_told, offers, patches, reach
from tests.helpers import (
    AB, HOUSES, NONE, OR, SEVEN, STRANGE, YES, assert_judged, assert_told, changed, dice_of, num, plus, random_line,
    slow_ahead, slow_build, slow_builds, slow_let, slow_paths, spoiled, when)

LINE = plus(num(1), when("b", num(2), num(3)))
TOLD = ((("a",), plus(("show", num(1)), num(3))),)
CLASHING = (((), plus(num(5), num(3))), (("a",), plus(num(6), num(3))))


def by_order(trees):
    return sorted(trees, key=functools.cmp_to_key(lambda one, other: -1 if slow_ahead(AB, one, other) else 1))


def slow_patches(line, told):
    """All patches, or the first path at which some clash."""
    found = []
    for setting, tree in told:
        found += [patch for patch in between(slow_build(line, setting), tree) if patch not in found]
    clashing = [one[1] for one, other in itertools.combinations(found, 2) if one[1:3] == other[1:3]]
    if clashing:
        return min(clashing)
    return tuple(sorted(found, key=lambda patch: (patch[1], by_order({each[2] for each in found}).index(patch[2]))))


def slow_offers(line, told, setting):
    """All offers: the build edited by any lot of the patches that fit it, none within another."""
    known = dict(told)
    if setting in known:
        return (known[setting],)
    build = slow_build(line, setting)
    fitting = [patch for patch in slow_patches(line, told) if slow_paths(build).get(patch[1]) == patch[2]]
    found = set()
    for many in range(len(fitting) + 1):
        for some in itertools.combinations(fitting, many):
            if not any(other[1][:len(one[1])] == one[1] for one, other in itertools.combinations(some, 2)):
                found.add(edited(build, some))
    return tuple(by_order(found))


def random_told(dice, house, line, chance=0.15):
    """Told builds that are changed a little."""
    let = slow_let(house)
    some = dice.sample(let, dice.randint(0, min(3, len(let))))
    return tuple((setting, changed(dice, slow_build(line, setting), chance)) for setting in some)


class TestTold(unittest.TestCase):
    def test_is_told(self):
        for thing in ((), TOLD, CLASHING, CLASHING[::-1], ((("a", "b"), num(1)), ((), num(1)))):
            self.assertIs(is_told(AB, thing), True)
        self.assertIs(is_told(NONE, ()), True)
        self.assertIs(is_told(NONE, TOLD), False)
        self.assertIs(is_told(OR, CLASHING), False)

    def test_no_told(self):
        wrong = (TOLD[0], list(TOLD), TOLD + TOLD, TOLD + ((("a",), num(1)),), ((("a",),),), ((("a",), num(1), num(1)),),
                 ((["a"], num(1)),), (("a", num(1)),), ((("b", "a"), num(1)),), ((("c",), num(1)),), ((("a",), LINE),),
                 ((("a",), ("number", True)),), ((("a",), [num(1)]),), ([("a",), num(1)],), {("a",): num(1)})
        for thing in STRANGE + wrong:
            self.assertIs(is_told(AB, thing), thing == (), thing)
        for thing in spoiled(TOLD + (((), num(0)),)):
            self.assertIs(is_told(AB, thing), False, thing)

    def test_is_told_refuses(self):
        for bad in STRANGE:
            with self.assertRaises(BadHouse):
                is_told(bad, ())


class TestPatches(unittest.TestCase):
    def test_by_hand(self):
        self.assertEqual(patches(AB, LINE, TOLD), (("patch", (1,), num(1), ("show", num(1))),))
        self.assertEqual(patches(AB, LINE, ()), ())
        self.assertEqual(patches(AB, LINE, ((("a",), plus(num(1), num(3))),)), ())
        self.assertEqual(patches(NONE, LINE, ()), ())

    def test_order(self):
        line = plus(when("a", num(9), ("show", num(0))), num(1))
        told = (((), plus(num(1), num(2))), (("a",), plus(num(8), num(2))))
        self.assertEqual(patches(AB, line, told), (
            ("patch", (1,), num(9), num(8)), ("patch", (1,), ("show", num(0)), num(1)), ("patch", (2,), num(1), num(2))))
        self.assertEqual(patches(AB, line, told[::-1]), patches(AB, line, told))

    def test_clash(self):
        with self.assertRaises(Clash) as caught:
            patches(AB, LINE, CLASHING)
        self.assertEqual(caught.exception.path, (1,))
        told = tuple((setting, plus(num(at), num(at))) for at, setting in enumerate((("a", "b"), ("b",), ("a",))))
        with self.assertRaises(Clash) as caught:
            patches(AB, LINE, told)
        self.assertEqual(caught.exception.path, (1,))
        with self.assertRaises(Clash) as caught:
            patches(AB, LINE, (((), num(4)), (("a",), num(5))))
        self.assertEqual(caught.exception.path, ())
        # Unlike old nodes at one path are no clash.
        self.assertEqual(len(patches(AB, LINE, (((), num(4)), (("b",), num(5))))), 2)

    def test_against_slow(self):
        dice = dice_of(34)
        clashing = 0
        for _ in range(300):
            house = dice.choice(HOUSES)
            line = random_line(dice, house[1], 14)
            told = random_told(dice, house, line)
            expected = slow_patches(line, told)
            if expected and not isinstance(expected[0], tuple) or expected == () and self.clashes(house, line, told):
                clashing += 1
                with self.assertRaises(Clash) as caught:
                    patches(house, line, told)
                self.assertEqual(caught.exception.path, expected)
            else:
                self.assertEqual(patches(house, line, told), expected)
        self.assertGreater(clashing, 5)

    def clashes(self, house, line, told):
        """Whether two told builds are unlike at their roots where those of the line were equal."""
        roots = {}
        for setting, tree in told:
            for patch in between(slow_build(line, setting), tree):
                if patch[1] == () and roots.setdefault(patch[2], patch[3]) != patch[3]:
                    return True
        return False

    def test_refused(self):
        assert_judged(self, patches, (AB, LINE, TOLD), (0, (), BadHouse), (1, (), BadLine), (2, [], BadTold))
        with self.assertRaises(BadTold):
            patches(AB, LINE, CLASHING + (None,))
        for bad in STRANGE:
            if bad != ():
                with self.assertRaises(BadTold):
                    patches(AB, LINE, bad)


class TestReach(unittest.TestCase):
    def test_by_hand(self):
        self.assertEqual(reach(AB, LINE, ("patch", (1,), num(1), ("show", num(1)))), YES)
        self.assertEqual(reach(AB, LINE, ("patch", (2,), num(2), num(0))), ("split", "b", YES, ("no",)))
        self.assertEqual(reach(AB, LINE, ("patch", (2,), num(4), num(0))), ("no",))
        self.assertEqual(reach(AB, LINE, ("patch", (3,), num(4), num(0))), ("no",))
        self.assertEqual(reach(AB, LINE, ("patch", (1, 1, 2), num(4), num(0))), ("no",))
        self.assertEqual(reach(NONE, LINE, ("patch", (1,), num(1), num(0))), ("no",))
        self.assertEqual(reach(OR, LINE, ("patch", (2,), num(3), num(0))), ("split", "a", ("split", "b", ("no",), YES), ("no",)))

    def test_against_slow(self):
        dice = dice_of(35)
        for _ in range(120):
            house = dice.choice(HOUSES)
            line = random_line(dice, house[1], 14, 0.5)
            trees = slow_builds(house, line)
            for tree in list(trees.values())[:3]:
                path, old = dice.choice(list(slow_paths(tree).items()))
                new = num(7) if old != num(7) else num(8)
                held = [setting for setting in trees if slow_paths(trees[setting]).get(path) == old]
                assert_told(self, house, reach(house, line, ("patch", path, old, new)), held)

    def test_refused(self):
        good = ("patch", (1,), num(1), num(0))
        assert_judged(self, reach, (AB, LINE, good), (0, (), BadHouse), (1, (), BadLine), (2, (), BadPatch))
        for bad in STRANGE + tuple(spoiled(good)) + (("patch", (1,), num(1), num(1)), (good,)):
            with self.assertRaises(BadPatch):
                reach(AB, LINE, bad)


class TestOffers(unittest.TestCase):
    def test_by_hand(self):
        shown = plus(("show", num(1)), num(3))
        self.assertEqual(offers(AB, LINE, TOLD, ("a",)), (shown,))
        self.assertEqual(offers(AB, LINE, TOLD, ()), (plus(num(1), num(3)), shown))
        self.assertEqual(offers(AB, LINE, (), ("a", "b")), (plus(num(1), num(2)),))
        self.assertEqual(offers(AB, LINE, (((), plus(num(1), num(3))),), ()), (plus(num(1), num(3)),))

    def test_patches_within_others(self):
        line = ("show", when("a", num(1), num(1)))
        told = (((), ("show", num(2))), (("a",), num(5)))
        # The patch of ("a",) takes the root; that of () the part, and not both at once.
        self.assertEqual(offers(AB, line, told, ("b",)), (num(5), ("show", num(1)), ("show", num(2))))

    def test_against_slow(self):
        dice = dice_of(36)
        several = 0
        for _ in range(250):
            house = dice.choice(HOUSES)
            line = random_line(dice, house[1], 14)
            told = random_told(dice, house, line)
            if self.refused(house, line, told):
                continue
            for setting in slow_let(house):
                expected = slow_offers(line, told, setting)
                if len(expected) > 60:
                    with self.assertRaises(TooMany):
                        offers(house, line, told, setting)
                else:
                    several += len(expected) > 2
                    self.assertEqual(offers(house, line, told, setting), expected)
        self.assertGreater(several, 20)

    def refused(self, house, line, told):
        try:
            patches(house, line, told)
        except Clash:
            return True
        return False

    def test_too_many(self):
        def chain(numbers):
            tree = ("truth", "yes")
            for number in numbers:
                tree = ("then", num(number), tree)
            return tree
        six, five = chain([1] * 6), chain([1] * 5)
        told = (((), chain([2] * 5)),)
        self.assertEqual(len(offers(AB, five, told, ("a",))), 32)
        self.assertEqual(offers(AB, six, (((), chain([2] * 6)),), ()), (chain([2] * 6),))
        with self.assertRaises(TooMany) as caught:
            offers(AB, six, (((), chain([2] * 6)),), ("a",))
        self.assertEqual(caught.exception.most, 60)

    def test_just_sixty(self):
        three = ("house", ("a", "b", "c"), YES)
        base = ("if", pair(1), num(3), pair(2))
        told = (((), ("if", pair(11), num(13), pair(12))), (("a",), ("if", num(21), num(3), pair(2))))
        self.assertEqual(len(offers(three, base, told, ("b",))), 5 * 2 * 4)
        # 3 * 4 * 5: a show that is patched within or as a whole, a pair, and a pair that is patched as a whole, too.
        base = ("if", ("show", num(1)), pair(2), pair(3))
        told = (((), ("if", ("show", num(11)), pair(12), pair(13))), (("a",), ("if", num(21), pair(2), num(23))))
        self.assertEqual(len(offers(three, base, told, ("b",))), 60)
        # One more: the whole is told for another setting.
        with self.assertRaises(TooMany) as caught:
            offers(three, base, told + ((("c",), num(9)),), ("b",))
        self.assertEqual(caught.exception.most, 60)

    def test_refused(self):
        assert_judged(self, offers, (AB, LINE, TOLD, ()), (0, (), BadHouse), (1, (), BadLine), (2, [], BadTold),
                      (3, ("c",), BadSetting))
        for bad in STRANGE + (("b", "a"), ["a"]):
            if bad != ():
                with self.assertRaises(BadSetting):
                    offers(AB, LINE, TOLD, bad)
        with self.assertRaises(BadSetting):
            offers(OR, LINE, TOLD, ())
        # Clash is behind all errors of one parameter, and ahead of TooMany.
        with self.assertRaises(BadSetting):
            offers(AB, LINE, CLASHING, ("c",))
        with self.assertRaises(Clash) as caught:
            offers(AB, LINE, CLASHING, ())
        self.assertEqual(caught.exception.path, (1,))
        with self.assertRaises(BadSetting):
            offers(NONE, LINE, (), ())

    def test_clash_is_ahead_of_too_many(self):
        base = ("if", pair(1), pair(2), pair(3))
        told = (((), ("if", pair(11), pair(12), pair(13))),)
        with self.assertRaises(TooMany):
            offers(AB, base, told, ("a",))
        with self.assertRaises(Clash) as caught:
            offers(AB, base, told + ((("b",), ("if", pair(1), pair(2), pair(23))),), ("a",))
        self.assertEqual(caught.exception.path, (3, 1))

    def test_seven_switches(self):
        told = ((SEVEN[1], plus(("show", num(1)), num(2))), ((), plus(num(1), num(3))))
        line = plus(num(1), when("b", num(2), num(3)))
        self.assertEqual(len(offers(SEVEN, line, told, ("g",))), 2)


def pair(number):
    return plus(num(number), num(number))


if __name__ == "__main__":
    unittest.main()

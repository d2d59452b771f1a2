"""Point 90: patches, edits and merges."""

import itertools
import unittest

from manybuilds.errors import BadEdit, BadExpression, Clash, Unfit
from manybuilds.patching import between, edited, is_edit, is_patch, merge
from tests.helpers import (
    STRANGE, assert_judged, changed, deep, dice_of, num, plus, random_line, slow_label, slow_paths, spoiled, when)

BASE = plus(num(1), ("show", plus(num(2), num(3))))
PATCH = ("patch", (2, 1), plus(num(2), num(3)), ("show", num(0)))


def patch(path, old, new):
    return ("patch", path, old, new)


def slow_between(one, other):
    """The patches at just the paths that lead to unlike labels first."""
    ones, others = slow_paths(one), slow_paths(other)
    found = []
    for path in sorted(ones):
        ahead = [path[:many] for many in range(len(path))]
        if all(slow_label(ones[high]) == slow_label(others[high]) for high in ahead if high in others and high in ones):
            if path in others and slow_label(ones[path]) != slow_label(others[path]):
                found.append(patch(path, ones[path], others[path]))
    return tuple(found)


def slow_clash(mine, yours):
    for one, other in itertools.product(mine, yours):
        short, long = sorted((one[1], other[1]), key=len)
        if one != other and long[:len(short)] == short:
            return short
    return None


class TestPatches(unittest.TestCase):
    def test_patches(self):
        for thing in (PATCH, patch((), num(1), num(2)), patch((3, 3, 3), ("truth", "yes"), ("truth", "no")),
                      patch((1,), ("let", "x", num(1), num(1)), ("let", "y", num(1), num(1))),
                      patch((), plus(num(1), num(1)), ("less", num(1), num(1)))):
            self.assertIs(is_patch(thing), True)
            self.assertIs(is_edit((thing,)), True)
            for wrong in spoiled(thing):
                self.assertIs(is_patch(wrong), False, wrong)
                self.assertIs(is_edit((wrong,)), False, wrong)

    def test_unlike_labels(self):
        for old, new in ((num(1), num(1)), (plus(num(1), num(1)), plus(num(2), num(2))), (("show", num(1)), ("show", num(2))),
                         (("set", "x", num(1)), ("set", "x", num(2)))):
            self.assertIs(is_patch(patch((), old, new)), False)

    def test_no_patches(self):
        wrong = (("patch", ()), ("patch", (), num(1)), ("patch", (), num(1), num(2), num(3)), patch((0,), num(1), num(2)),
                 patch((4,), num(1), num(2)), patch((-1,), num(1), num(2)), patch((True,), num(1), num(2)),
                 patch([1], num(1), num(2)), patch(1, num(1), num(2)), patch((), when("a", num(1), num(1)), num(2)),
                 patch((), num(1), when("a", num(1), num(1))), patch((), num(True), num(2)), ("edit", (), num(1), num(2)),
                 patch((), 1, 2), patch(("1",), num(1), num(2)), patch((), num(1), deep(50)))
        for thing in STRANGE + wrong:
            self.assertIs(is_patch(thing), False, thing)

    def test_edits(self):
        one, other, third = (patch(path, num(1), num(2)) for path in ((1,), (2, 1), (2, 2)))
        self.assertIs(is_edit(()), True)
        self.assertIs(is_edit((one, other, third)), True)
        self.assertIs(is_edit((one, third)), True)
        self.assertIs(is_edit([one]), False)
        self.assertIs(is_edit((other, one)), False)
        self.assertIs(is_edit((one, one)), False)
        self.assertIs(is_edit((one, patch((1,), num(2), num(3)))), False)
        self.assertIs(is_edit((patch((2,), num(1), num(2)), other)), False)
        self.assertIs(is_edit((patch((), num(1), num(2)), one)), False)
        self.assertIs(is_edit((patch((1,), num(1), num(2)), patch((1, 1, 1), num(1), num(2)))), False)
        self.assertIs(is_edit((patch((1, 2), num(1), num(2)), patch((1, 2, 1), num(1), num(2)), third)), False)
        self.assertIs(is_edit(one), False)
        for thing in STRANGE:
            self.assertIs(is_edit(thing), thing == (), thing)
            self.assertIs(is_edit((one, thing)), False, thing)


class TestEdited(unittest.TestCase):
    def test_by_hand(self):
        self.assertEqual(edited(BASE, ()), BASE)
        self.assertEqual(edited(BASE, (PATCH,)), plus(num(1), ("show", ("show", num(0)))))
        self.assertEqual(edited(BASE, (patch((1,), num(1), num(7)), PATCH)), plus(num(7), ("show", ("show", num(0)))))
        self.assertEqual(edited(BASE, (patch((), BASE, num(0)),)), num(0))

    def test_unfit(self):
        for edit in ((patch((1,), num(2), num(1)),), (patch((3,), num(1), num(2)),), (patch((1, 1), num(1), num(2)),),
                     (patch((1,), num(1), num(2)), patch((2,), num(9), num(2))), (patch((), num(1), num(2)),),
                     (patch((2, 1), plus(num(2), num(4)), num(0)),)):
            self.assertIs(is_edit(edit), True)
            with self.assertRaises(Unfit):
                edited(BASE, edit)

    def test_edited_refuses(self):
        assert_judged(self, edited, (BASE, ()), (0, when("a", num(1), num(1)), BadExpression), (1, [], BadEdit),
                      )
        with self.assertRaises(BadEdit):
            edited(BASE, (patch((1,), num(9), num(2)), None))
        for bad in STRANGE:
            with self.assertRaises(BadExpression):
                edited(bad, ())
            if bad != ():
                with self.assertRaises(BadEdit):
                    edited(BASE, bad)

    def test_between_by_hand(self):
        self.assertEqual(between(BASE, BASE), ())
        self.assertEqual(between(BASE, plus(num(1), ("show", ("show", num(0))))), (PATCH,))
        self.assertEqual(between(plus(num(1), num(2)), plus(num(3), num(4))),
                         (patch((1,), num(1), num(3)), patch((2,), num(2), num(4))))
        self.assertEqual(between(num(1), num(2)), (patch((), num(1), num(2)),))
        one = ("let", "x", num(1), ("name", "x"))
        self.assertEqual(between(one, ("let", "y", num(1), ("name", "x"))), (patch((), one, ("let", "y", num(1), ("name", "x"))),))
        self.assertEqual(between(one, ("let", "x", num(2), ("name", "x"))), (patch((2,), num(1), num(2)),))

    def test_between_leads_there(self):
        dice = dice_of(31)
        for _ in range(300):
            one = random_line(dice, (), dice.randint(1, 20))
            other = changed(dice, one, dice.choice((0.05, 0.2, 0.5)))
            edit = between(one, other)
            self.assertIs(is_edit(edit), True)
            self.assertEqual(edit, slow_between(one, other))
            self.assertEqual(edited(one, edit), other)
            self.assertEqual(edited(other, between(other, one)), one)

    def test_between_refuses(self):
        assert_judged(self, between, (BASE, BASE), (0, None, BadExpression), (1, when("a", num(1), num(1)), BadExpression))
        for bad in STRANGE + tuple(spoiled(BASE)):
            with self.assertRaises(BadExpression):
                between(bad, BASE)
            with self.assertRaises(BadExpression):
                between(BASE, bad)


class TestMerge(unittest.TestCase):
    def test_by_hand(self):
        one = plus(num(7), ("show", plus(num(2), num(3))))
        other = plus(num(1), ("show", plus(num(2), num(8))))
        self.assertEqual(merge(BASE, one, other), plus(num(7), ("show", plus(num(2), num(8)))))
        self.assertEqual(merge(BASE, one, one), one)
        self.assertEqual(merge(BASE, BASE, one), one)
        self.assertEqual(merge(BASE, one, BASE), one)

    def assert_clash(self, base, one, other, path):
        for first, second in ((one, other), (other, one)):
            with self.assertRaises(Clash) as caught:
                merge(base, first, second)
            self.assertEqual(caught.exception.path, path)

    def test_clashes(self):
        self.assert_clash(num(1), num(2), num(3), ())
        self.assert_clash(BASE, plus(num(2), BASE[2]), plus(num(3), BASE[2]), (1,))
        inner = plus(num(1), ("show", plus(num(2), num(4))))
        self.assert_clash(BASE, plus(num(1), num(0)), inner, (2,))
        self.assert_clash(BASE, num(0), inner, ())
        # What both do is no clash; of two clashes the first one is told.
        self.assert_clash(plus(num(1), plus(num(2), num(3))), plus(num(0), plus(num(5), num(6))), plus(num(0), plus(num(7), num(8))),
                          (2, 1))

    def test_against_slow(self):
        dice = dice_of(32)
        clashing = 0
        for _ in range(400):
            base = random_line(dice, (), dice.randint(1, 16))
            one, other = changed(dice, base, 0.15), changed(dice, base, 0.15)
            mine, yours = between(base, one), between(base, other)
            path = slow_clash(mine, yours)
            if path is not None:
                clashing += 1
                self.assert_clash(base, one, other, path)
                continue
            expected = edited(base, tuple(sorted(set(mine) | set(yours), key=lambda each: each[1])))
            self.assertEqual(merge(base, one, other), expected)
            self.assertEqual(merge(base, other, one), expected)
        self.assertGreater(clashing, 30)

    def test_three_edits_in_any_order(self):
        dice = dice_of(33)
        done = 0
        for _ in range(300):
            base = random_line(dice, (), 20)
            others = [changed(dice, base, 0.06) for _ in range(3)]
            edits = [between(base, other) for other in others]
            if any(slow_clash(one, other) is not None for one, other in itertools.combinations(edits, 2)):
                continue
            done += 1
            ends = {merge(base, merge(base, one, other), third) for one, other, third in itertools.permutations(others)}
            self.assertEqual(len(ends), 1)
        self.assertGreater(done, 50)

    def test_refused(self):
        assert_judged(self, merge, (BASE, BASE, BASE), (0, None, BadExpression), (1, [], BadExpression), (2, (), BadExpression))
        with self.assertRaises(BadExpression):
            merge(num(1), num(2), when("a", num(3), num(3)))
        for bad in STRANGE:
            for args in ((bad, BASE, num(1)), (BASE, bad, num(1)), (BASE, num(1), bad)):
                with self.assertRaises(BadExpression):
                    merge(*args)


if __name__ == "__main__":
    unittest.main()

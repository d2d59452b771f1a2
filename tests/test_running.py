"""Point 33: runs."""

import unittest

from manybuilds.errors import BadExpression
from manybuilds.running import run
from tests.helpers import STRANGE, dice_of, num, plus, random_line, spoiled, when

Y = ("truth", "yes")
N = ("truth", "no")
STUCK = ("stuck",)


def x():
    return ("name", "x")


def show(part):
    return ("show", part)


class Stuck(Exception):
    pass


def slow_run(expression):
    """The same by other means: scopes as dicts with a link to the one around."""
    events = []

    def work(node, scope):
        tag = node[0]
        if tag in ("number", "truth"):
            return node[1]
        if tag in ("name", "set"):
            worth = work(node[2], scope) if tag == "set" else None
            while scope is not None and scope["name"] != node[1]:
                scope = scope["around"]
            if scope is None:
                raise Stuck
            if tag == "set":
                scope["worth"] = worth
            return scope["worth"]
        if tag == "let":
            worth = work(node[2], scope)
            return work(node[3], {"name": node[1], "worth": worth, "around": scope})
        if tag in ("plus", "less"):
            one, other = work(node[1], scope), work(node[2], scope)
            if isinstance(one, str) or isinstance(other, str):
                raise Stuck
            if tag == "plus":
                return one + other
            return "yes" if one < other else "no"
        if tag == "if":
            truth = work(node[1], scope)
            if truth not in ("yes", "no"):
                raise Stuck
            return work(node[2] if truth == "yes" else node[3], scope)
        if tag == "show":
            events.append(work(node[1], scope))
            return events[-1]
        work(node[1], scope)
        return work(node[2], scope)
    try:
        end = ("ends", work(expression, None))
    except Stuck:
        end = STUCK
    return (tuple(events), end)


class TestRunning(unittest.TestCase):
    def assert_run(self, expression, events, end):
        told = run(expression)
        self.assertEqual(told, (events, end))
        self.assertEqual(repr(told), repr((events, end)))

    def test_worths(self):
        self.assert_run(num(7), (), ("ends", 7))
        self.assert_run(Y, (), ("ends", "yes"))
        self.assert_run(N, (), ("ends", "no"))
        self.assert_run(plus(num(999), plus(num(999), num(1))), (), ("ends", 1999))
        self.assert_run(("less", num(1), num(2)), (), ("ends", "yes"))
        self.assert_run(("less", num(2), num(2)), (), ("ends", "no"))
        self.assert_run(("less", num(3), num(2)), (), ("ends", "no"))

    def test_ifs(self):
        self.assert_run(("if", Y, show(num(1)), show(num(2))), (1,), ("ends", 1))
        self.assert_run(("if", N, show(num(1)), show(num(2))), (2,), ("ends", 2))
        self.assert_run(("if", num(1), show(num(1)), show(num(2))), (), STUCK)
        self.assert_run(("if", show(num(0)), num(1), num(2)), (0,), STUCK)
        self.assert_run(("if", Y, num(1), x()), (), ("ends", 1))

    def test_order_of_events(self):
        self.assert_run(plus(show(num(1)), show(num(2))), (1, 2), ("ends", 3))
        self.assert_run(("then", show(num(1)), show(Y)), (1, "yes"), ("ends", "yes"))
        self.assert_run(show(plus(show(num(1)), num(1))), (1, 2), ("ends", 2))
        self.assert_run(("let", "x", show(num(1)), show(num(2))), (1, 2), ("ends", 2))

    def test_both_parts_are_worked_out_first(self):
        self.assert_run(plus(Y, show(num(1))), (1,), STUCK)
        self.assert_run(("less", show(Y), show(num(1))), ("yes", 1), STUCK)
        self.assert_run(plus(x(), show(num(1))), (), STUCK)
        self.assert_run(("less", num(1), Y), (), STUCK)

    def test_lets_and_sets(self):
        self.assert_run(("let", "x", num(1), plus(x(), x())), (), ("ends", 2))
        self.assert_run(("let", "x", num(1), ("then", ("set", "x", num(5)), x())), (), ("ends", 5))
        self.assert_run(("let", "x", num(1), plus(x(), ("set", "x", plus(x(), num(1))))), (), ("ends", 3))
        self.assert_run(("let", "x", num(1), ("then", ("set", "x", Y), x())), (), ("ends", "yes"))
        self.assert_run(("let", "x", show(num(1)), plus(x(), x())), (1,), ("ends", 2))

    def test_the_nearest_let_counts(self):
        inner = ("let", "x", num(2), ("then", ("set", "x", num(3)), x()))
        self.assert_run(("let", "x", num(1), plus(inner, x())), (), ("ends", 4))
        self.assert_run(("let", "x", num(1), ("let", "x", x(), x())), (), ("ends", 1))
        self.assert_run(("let", "x", num(1), ("let", "x", ("set", "x", num(8)), ("then", ("set", "x", num(2)), x()))), (),
                        ("ends", 2))
        self.assert_run(("let", "x", num(1), ("then", ("let", "y", num(0), ("set", "x", num(6))), x())), (), ("ends", 6))

    def test_stuck(self):
        self.assert_run(x(), (), STUCK)
        self.assert_run(("set", "x", show(num(1))), (1,), STUCK)
        self.assert_run(("let", "x", x(), num(1)), (), STUCK)
        self.assert_run(("let", "x", ("set", "x", num(1)), num(1)), (), STUCK)
        self.assert_run(("then", ("let", "x", num(1), x()), x()), (), STUCK)
        self.assert_run(("then", show(num(1)), ("then", x(), show(num(2)))), (1,), STUCK)
        self.assert_run(show(x()), (), STUCK)
        self.assert_run(("let", "x", num(1), ("name", "y")), (), STUCK)

    def test_against_slow(self):
        dice = dice_of(13)
        ends = {}
        for _ in range(1500):
            expression = random_line(dice, (), dice.randint(1, 40))
            if dice.random() < 0.7:
                expression = ("let", "x", num(1), ("let", "y", Y if dice.random() < 0.3 else num(3), expression))
            self.assertEqual(run(expression), slow_run(expression))
            ends[run(expression)[1][0]] = True
        self.assertEqual(sorted(ends), ["ends", "stuck"])

    def test_each_run_ends_soon(self):
        expression = x()
        for _ in range(28):
            expression = ("let", "x", plus(x(), x()), expression)
        self.assert_run(("let", "x", num(1), expression), (), ("ends", 2 ** 28))

    def test_refused(self):
        for bad in STRANGE + (when("a", num(1), num(2)), show(when("a", num(1), num(2))), ("number", True), [num(1)]):
            with self.assertRaises(BadExpression):
                run(bad)
        for bad in spoiled(("let", "x", num(1), plus(x(), Y))):
            with self.assertRaises(BadExpression):
                run(bad)


if __name__ == "__main__":
    unittest.main()

"""Point 23, and what point 28 says of it: acts of rows of words."""

import itertools
import unittest

from manybuilds.errors import BadAct, BadText
from manybuilds.pieces import act, behind, is_act, least_words
from tests.helpers import (
    KEPT_WORDS, STRANGE, WORDS, assert_judged, dice_of, is_read, random_line, random_words, slow_read, spoiled)

E = "an expression"
N = "a name"
READ = ((E,), ())
# One word for each way to take a want and to put others in its place; all other words do as one of these does.
KINDS = ("0", "x:", "in", "with", "than", "then", "else", "next", "let", "set", "plus", "if", "show", "first", "less")
PLACED = {"let": (N, E, "in", E), "set": (N, E), "plus": (E, "with", E), "less": (E, "than", E),
          "if": (E, "then", E, "else", E), "show": (E,), "first": (E, "next", E), "0": (), "x:": ()}
TAKEN = {"x:": N, **{word: E for word in ("0", "let", "set", "plus", "less", "if", "show", "first")}}


def behind_words(wants, words):
    """What is due behind the words where the wants were due; None if they cannot all stand."""
    for word in words:
        if not wants or TAKEN.get(word, word) != wants[0]:
            return None
        wants = PLACED.get(word, ()) + wants[1:]
    return wants


def met_tuples(most):
    """All tuples of at most so many wants that are met, found by words one behind the other."""
    found, todo = {(E,)}, [(E,)]
    while todo:
        wants = todo.pop()
        for word in KINDS:
            further = behind_words(wants, (word,))
            # Wants behind the others only go when all ahead of them did.
            if further is not None and len(further) <= most + 4 and further not in found:
                found.add(further)
                todo.append(further)
    return [wants for wants in found if len(wants) <= most]


MET = met_tuples(9)


def slow_act(words):
    """The act, told by what the words do where any of the met tuples is due."""
    moves = {wants: behind_words(wants, words) for wants in MET if len(wants) < 9}
    moves = {wants: left for wants, left in moves.items() if left is not None}
    if not moves:
        return None
    # The longest needs with which all of these tuples begin.
    needs = min(moves, key=len)
    while any(wants[:len(needs)] != needs for wants in moves):
        needs = needs[:-1]
    leaves = moves[min(moves, key=len)]
    cut = len(min(moves, key=len)) - len(needs)
    leaves = leaves[:len(leaves) - cut]
    for wants in MET:
        if len(wants) < 9:
            assert (wants in moves) == (wants[:len(needs)] == needs), (words, wants)
            assert wants not in moves or moves[wants] == leaves + wants[len(needs):], (words, wants)
    return needs, leaves


# The acts of all rows of at most three words, each with the number of words of the shortest one.
SHORTEST = {}
for _many in range(4):
    for _words in itertools.product(KINDS + ("or",), repeat=_many):
        SHORTEST.setdefault(act(" ".join(_words)), _many)


class TestAct(unittest.TestCase):
    def test_by_hand(self):
        for text, expected in (
                ("", ((), ())), (" \n ", ((), ())), ("plus x with", ((E,), (E,))), ("4 5", None),
                ("then", (("then", E, "else", E), (E, "else", E))), ("3", READ), ("x", READ), ("yes", READ), ("no", READ),
                ("3 with", ((E, "with", E), (E,))), ("with 3", (("with", E), ())), ("in", (("in", E), (E,))),
                ("x:", ((N, E), (E,))), ("x: 3", ((N, E), ())), ("x: 3 in", ((N, E, "in", E), (E,))),
                ("let", ((E,), (N, E, "in", E))), ("let x:", ((E,), (E, "in", E))), ("set x:", ((E,), (E,))),
                ("show", ((E,), (E,))), ("if", ((E,), (E, "then", E, "else", E))),
                ("then 3", (("then", E, "else", E), ("else", E))), ("else 3", (("else", E), ())),
                ("3 then", ((E, "then", E, "else", E), (E, "else", E))), ("then 3 else", (("then", E, "else", E), (E,))),
                ("then 3 else 4 with", (("then", E, "else", E, "with", E), (E,))), ("3 x:", None), ("with with", None), ("then 3 with", None), ("then 3 next", None), ("or", None), ("plus or", None),
                ("let 3", None), ("in x:", None), ("plus with", None), ("plus 1 than", None), ("only a", None), ("x over", None),
                ("plus 1\nwith 2\n", READ), ("else 3 in", (("else", E, "in", E), (E,)))):
            self.assertEqual(act(text), expected, text)

    def test_no_row_is_a_fork_row(self):
        for text in ("only yes\n1\nover", "over", "other\n1", "1\nover"):
            self.assertIsNone(act(text))

    def test_by_what_words_do(self):
        for many in range(4):
            for words in itertools.product(KINDS, repeat=many):
                self.assertEqual(act(" ".join(words)), slow_act(words), words)

    def test_longer_rows(self):
        dice = dice_of(91)
        acts = 0
        for _ in range(300):
            line = random_line(dice, (), dice.randint(3, 9))
            words = [word if word in KINDS else "x:" if word.endswith(":") else "0"
                     for word in random_words(dice, dice.randint(3, 6), line) if word != "or"]
            expected = slow_act(words)
            self.assertEqual(act("\n".join(words)), expected, words)
            acts += expected is not None
        self.assertGreater(acts, 100)

    def test_read_exactly_if_theirs_is_this(self):
        dice = dice_of(92)
        for _ in range(400):
            words = random_words(dice, dice.randint(1, 9), random_line(dice, (), dice.randint(1, 6)))
            self.assertIs(act(" ".join(words)) == READ, is_read(words), words)

    def test_words(self):
        for word in ("00", "01", "1000", "1:", "in:", "abcdefghi", "X", "x::", ":", "-1", "(", "abcdefghi:") + tuple(KEPT_WORDS):
            if word not in KINDS + ("yes", "no"):
                self.assertIsNone(act(word), word)
        for word in ("0", "10", "999", "abcdefgh", "a"):
            self.assertEqual(act(word), READ)

    def test_long_texts(self):
        self.assertEqual(act("show " * 2000), ((E,), (E,)))
        self.assertEqual(act("with 1 " * 1400), (("with", E) * 1400, ()))

    def test_refused(self):
        for bad in STRANGE + ("\t", "x\r", "\u00e4"):
            if not isinstance(bad, str) or bad in ("\t", "x\r", "\u00e4"):
                with self.assertRaises(BadText):
                    act(bad)


class TestIsAct(unittest.TestCase):
    def test_all_acts_of_short_rows(self):
        for known in SHORTEST:
            self.assertIs(is_act(known), True, known)
        self.assertIs(is_act(None), True)

    def test_all_pairs_of_short_tuples(self):
        tuples = [wants for many in range(4) for wants in itertools.product(
            (E, N, "in", "with", "then", "else"), repeat=many)]
        told = 0
        for needs, leaves in itertools.product(tuples, repeat=2):
            pair = (needs, leaves)
            expected = needs in MET and leaves in MET and (needs != () or leaves == ())
            self.assertIs(is_act(pair), expected, pair)
            if expected:
                self.assertEqual(act(least_words(pair)), pair)
                told += 1
            self.assertTrue(expected or pair not in SHORTEST)
        self.assertGreater(told, 60)

    def test_longer_tuples(self):
        for wants in MET:
            if len(wants) < 8:
                self.assertIs(is_act(((E,), wants)), True)
                self.assertIs(is_act((wants, wants)), True)
        for wants in ((E, E), (N,), (N, N), ("in",), ("then", E), ("then", E, "with", E), ("then", E, "else"), (E, N, E),
                      (E, "in"), ("else",), ("with", N, E), ("with", E, E), (N, "in", E), ("or", E), (E, "then", E), (N, E, "then", E),
                      ("with", E, N, E), ("then", E, "then", E, "else", E), ("the end",), ("",)):
            self.assertIs(is_act(((E,), wants)), False, wants)
            self.assertIs(is_act((wants, (E,))), False, wants)

    def test_any_value(self):
        for thing in STRANGE:
            self.assertIs(is_act(thing), thing is None, thing)
        for known in (READ, ((), ()), ((N, E, "in", E), (E, "else", E))):
            for wrong in spoiled(known):
                if wrong is not None:
                    self.assertIs(is_act(wrong), False, wrong)
        for thing in (((E,),), ((E,), (), ()), (E, ()), (((E,), ()),), ((E,), None), (None, None), ((), (E,))):
            self.assertIs(is_act(thing), False, thing)


class TestBehind(unittest.TestCase):
    def test_by_hand(self):
        self.assertEqual(behind(act("plus"), act("1 with 2")), READ)
        self.assertEqual(behind(act("4"), act("5")), None)
        self.assertEqual(behind(act("3"), act("then")), act("3 then"))
        self.assertEqual(behind(None, READ), None)
        self.assertEqual(behind(READ, None), None)
        self.assertEqual(behind(None, None), None)

    def test_all_short_rows(self):
        rows = [words for many in range(3) for words in itertools.product(KINDS + ("or",), repeat=many)]
        for one, other in itertools.product(rows, repeat=2):
            if len(one + other) < 4:
                self.assertEqual(behind(act(" ".join(one)), act(" ".join(other))), act(" ".join(one + other)), (one, other))

    def test_longer_rows(self):
        dice = dice_of(93)
        whole = 0
        for _ in range(3000):
            words = random_words(dice, dice.randint(1, 10), random_line(dice, (), dice.randint(1, 9)))
            at = dice.randint(0, len(words))
            one, other = act(" ".join(words[:at])), act(" ".join(words[at:]))
            expected = act(" ".join(words))
            self.assertEqual(behind(one, other), expected, words)
            whole += expected is not None
        self.assertGreater(whole, 500)

    def test_the_same_for_all_words_of_the_acts(self):
        for one, other in itertools.product(list(SHORTEST)[:120], repeat=2):
            self.assertEqual(behind(one, other), act(least_words(one) + "\n" + least_words(other)))

    def test_no_words_change_nothing(self):
        for known in SHORTEST:
            self.assertEqual(behind(known, ((), ())), known)
            self.assertEqual(behind(((), ()), known), known)

    def test_in_whatever_lots(self):
        dice = dice_of(94)
        known = list(SHORTEST)
        for _ in range(3000):
            one, other, third = [dice.choice(known) for _ in range(3)]
            self.assertEqual(behind(behind(one, other), third), behind(one, behind(other, third)))

    def test_refused(self):
        assert_judged(self, behind, (READ, READ), (0, (), BadAct), (1, (), BadAct))
        for bad in STRANGE + (((), (E,)), ((E, E), ())):
            if bad is not None:
                for values in ((bad, READ), (READ, bad), (bad, None)):
                    with self.assertRaises(BadAct):
                        behind(*values)


class TestLeastWords(unittest.TestCase):
    def test_no_shorter_text(self):
        """All shorter rows were tried for each act of up to three words."""
        for known, many in SHORTEST.items():
            text = least_words(known)
            self.assertEqual(act(text), known)
            self.assertEqual(len(text.split()), many, known)

    def test_acts_of_longer_rows(self):
        """Acts that no row of up to three words has take four words or more."""
        dice = dice_of(95)
        for _ in range(500):
            words = random_words(dice, dice.randint(4, 8), random_line(dice, (), dice.randint(3, 9)))
            known = act(" ".join(words))
            many = len(least_words(known).split())
            self.assertEqual(act(least_words(known)), known)
            self.assertLessEqual(many, len(words))
            self.assertTrue(known in SHORTEST or many > 3)

    def test_one_word_changed_or_taken_away(self):
        """No word of a least text can lack, for acts that need many words."""
        for needs in MET:
            for leaves in ((), (E,), ("else", E), (E, "else", E), (N, E), (N, E, "in", E), (E, "with", E)):
                if needs and len(needs) < 7:
                    words = least_words((needs, leaves)).split()
                    self.assertEqual(act(" ".join(words)), (needs, leaves))
                    for at in range(len(words)):
                        self.assertNotEqual(act(" ".join(words[:at] + words[at + 1:])), (needs, leaves))

    def assert_shortest(self, kinds):
        """Each act of rows of up to six words of these kinds, with the number of words of the shortest one."""
        shortest = {}
        for many in range(7):
            for words in itertools.product(kinds, repeat=many):
                known = act(" ".join(words))
                if known is not None:
                    shortest.setdefault(known, many)
        for known, many in shortest.items():
            self.assertEqual(len(least_words(known).split()), many, known)

    def test_rows_of_an_if(self):
        """The last words may leave what is due there as it is."""
        self.assert_shortest(("0", "then", "else", "if", "show"))

    def test_rows_of_names(self):
        self.assert_shortest(("0", "x:", "let", "set", "in", "show"))

    def test_none(self):
        text = least_words(None)
        self.assertIsNone(act(text))
        self.assertEqual(len(text.split()), 1)
        self.assertEqual(least_words(((), ())).split(), [])

    def test_refused(self):
        for bad in STRANGE + (((), (E,)), ((E, E), ()), [READ], list(READ), ((E,), [])):
            if bad is not None:
                with self.assertRaises(BadAct):
                    least_words(bad)


class TestWords(unittest.TestCase):
    def test_kinds(self):
        self.assertLessEqual(set(KINDS) - {"x:"}, set(WORDS))
        for word in KINDS:
            self.assertEqual(slow_read([word])[0] == 0, TAKEN.get(word, word) != E)


if __name__ == "__main__":
    unittest.main()

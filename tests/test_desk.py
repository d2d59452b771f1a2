"""Point 170: desks."""

import unittest

from manybuilds.askings import least_askings
from manybuilds.blame import freed
from manybuilds.books import shows
from manybuilds.branches import fewest_branches
from manybuilds.conditions import fate
from manybuilds.desk import Desk
from manybuilds.errors import BadRows, BadText, BuildError, NothingDone, NothingUndone
from manybuilds.forks import told_words, words_where
from manybuilds.keying import least_keys
from manybuilds.lines import same_builds
from manybuilds.linetexts import text_of
from manybuilds.pages import page_text, read_page
from manybuilds.readings import reading
from manybuilds.running import run
from manybuilds.stepping import after
from manybuilds.ties import good_where
from tests.helpers import (
    HOUSES, NONE, ONE, OR, SEVEN, STRANGE, dice_of, line_text, num, random_house, random_line, random_text, slow_all,
    slow_build, slow_condition_text, slow_let, slow_line_rows, slow_nodes, when)
from tests.test_books import LINE
from tests.test_forks import EXAMPLE
from tests.test_ties import typed_line

PAGE = "switches a b\nrule either a or b\n" + EXAMPLE
# The line of point 76 as a page in the house of point 34.
SHOWING = "switches a b\nrule either a or b\n" + "\n".join(slow_line_rows(LINE))
WORDS = ("page", "read", "faults", "branches", "blame", "line", "kinds", "shows", "askings", "keys")
OF_ROWS = ("page", "words", "faults", "blame", "branches")


def rows_or_none(rows):
    return "\n".join(rows) or "none"


def result_text(result):
    return " ".join(map(str, result[0] + result[1]))


def branches_in(text):
    return len([row for row in text.split("\n") if row.split()[:1] in (["only"], ["other"])])


class Model:
    """A desk that keeps all that was done, and works out each answer anew."""

    def __init__(self, text):
        self.states = [read_page(text)]
        self.at = 0

    def answer(self, words, page):
        try:
            return self.told(words, page)
        except BuildError as error:
            return "error " + type(error).__name__

    def told(self, words, page):
        house, text = self.states[self.at]
        line, good, faults = reading(house, text)
        good_house = ("house", house[1], good)
        tag, *rest = words
        if tag == "undo" or tag == "redo":
            at = self.at + (1 if tag == "redo" else -1)
            if not 0 <= at < len(self.states):
                raise NothingDone if tag == "undo" else NothingUndone
            self.at = at
            return "ok"
        if tag in ("switches", "row", "tidy", "rewrite", "retire"):
            state = self.deed(tag, rest, page, line if not faults else None)
            self.states = self.states[:self.at + 1] + [state]
            self.at += 1
            return "ok"
        if tag in ("line", "kinds", "shows", "askings", "keys"):
            return "none" if line is None else self.on_line(tag, good_house, line)
        if tag == "page":
            return page_text(house, text)
        if tag == "read":
            return slow_condition_text(good)
        if tag == "faults":
            return rows_or_none(f"{at} {want}: {slow_condition_text(condition)}" for at, want, condition in faults)
        if tag == "branches":
            return f"{branches_in(text)} {branches_in(fewest_branches(house, text))}"
        if tag == "blame":
            return rows_or_none(" ".join(map(str, lot)) or "-" for lot in freed(house, text))
        if tag == "fate":
            return fate(house, rest[0])
        setting = () if rest == ["-"] else tuple(rest[0].split("+"))
        if tag == "words":
            return " ".join(words_where(house, text, setting))
        if setting not in slow_let(good_house):
            return "error BadSetting"
        return result_text(run(slow_build(line, setting)))

    def deed(self, tag, rest, page, whole):
        """The house and the text behind the deed."""
        house, text = self.states[self.at]
        if tag == "switches":
            return read_page(page)
        if tag == "row":
            rows = text.split("\n")
            if int(rest[0]) >= len(rows):
                return self.refused("BadIndex")
            rows[int(rest[0]):int(rest[0]) + 1] = page.split("\n")[1:]
            told_words(house, "\n".join(rows))
            return house, "\n".join(rows)
        if tag == "tidy":
            return house, fewest_branches(house, text)
        if whole is None:
            return self.refused("BadText")
        if tag == "rewrite":
            return house, text_of(house, whole)
        new_house, line = after(house, whole, ("retire",) + tuple(rest))
        return new_house, text_of(new_house, line)

    def refused(self, name):
        raise type(name, (BuildError,), {})

    def on_line(self, tag, house, line):
        if tag == "line":
            choices = [node for node in slow_nodes(line) if node[0] == "choice"]
            return f"{len(choices)} {len(slow_nodes(line))}"
        if tag == "kinds":
            return slow_condition_text(good_where(house, line))
        if tag == "shows":
            return "\n".join(f"{result_text(result)}: {slow_condition_text(condition)}" for result, condition in shows(house, line))
        if tag == "askings":
            return str(least_askings(house, line))
        return "\n".join("+".join(lot) or "-" for lot in least_keys(house, line))


def told(page, *lines):
    """The answers of a new desk to the lines."""
    desk = Desk(page)
    return [desk.say(line) for line in lines]


def answers(desk, skip=()):
    """All answers to questions."""
    page = desk.say("page")
    house, _ = read_page(page)
    found = {word: desk.say(word) for word in WORDS if word not in skip}
    for setting in slow_all(house):
        words = "+".join(setting) or "-"
        found["run " + words] = desk.say("run " + words)
        if "words" not in skip:
            found["words " + words] = desk.say("words " + words)
    found.update({"fate " + s: desk.say("fate " + s) for s in house[1] + ("q",)})
    return found


class TestMaking(unittest.TestCase):
    def test_pages(self):
        for page in (PAGE, SHOWING, "switches a\nrule no\n", "  switches  b   a\n rule  not b \n 1 \n\n"):
            house, text = read_page(page)
            self.assertEqual(told(page, "page"), [page_text(house, text)])
            self.assertEqual(Desk(text=page).say(line="page"), page_text(house, text))

    def test_wrong_pages(self):
        for bad in [thing for thing in STRANGE if not isinstance(thing, str)] + ["\t", PAGE + "\r", [PAGE], PAGE.encode()]:
            with self.assertRaises(BadText):
                Desk(bad)
        for bad, at in (("", 0), ("a", 0), ("switches", 0), ("switches a", 1), ("switches a\nrule yes", 2), ("switches a\nrule b\n", 1),
                        ("switches a a\nrule yes\n", 0), ("switches a\nrule yes\nover", 2), ("switches a\nrule yes\n1\nonly a\n1", 5)):
            with self.assertRaises(BadRows) as caught:
                Desk(bad)
            self.assertEqual(caught.exception.at, at, bad)


class TestQuestions(unittest.TestCase):
    def test_example(self):
        self.assertEqual(told(PAGE, "page", "words b", "words a+b", "words a", "words -", "read", "faults", "branches", "blame"), [
            PAGE, "let x: 3 in x", "let x: 3 in plus x with x", "let x: 3 in plus x with 4 5", "let x: 3 in 4 5",
            "when b take yes otherwise no", "9 the end: when a take when b take no otherwise yes otherwise no", "3 3", "4"])
        self.assertEqual(told(PAGE, "run b", "run a+b", "run a", "line", "kinds", "askings", "keys", "fate a"), [
            "ends 3", "ends 6", "error BadSetting", "1 7", "when b take yes otherwise no", "1", "a", "free"])
        self.assertEqual(told(PAGE, "shows"), [
            "ends 3: when a take no otherwise when b take yes otherwise no\n"
            "ends 6: when a take when b take yes otherwise no otherwise no"])

    def test_line_of_point_76(self):
        self.assertEqual(told(SHOWING, "run b", "run a", "run a+b", "line", "askings", "keys"), [
            "2 1 ends 1", "1 ends 0", "1 1 ends 1", "2 12", "2", "a+b"])
        self.assertEqual(told(SHOWING, "shows"), [
            "2 1 ends 1: when a take no otherwise when b take yes otherwise no\n"
            "1 ends 0: when a take when b take no otherwise yes otherwise no\n"
            "1 1 ends 1: when a take when b take yes otherwise no otherwise no"])
        self.assertEqual(told(SHOWING, "read", "kinds", "faults", "blame"), [
            "when a take yes otherwise when b take yes otherwise no"] * 2 + ["none", "-"])

    def test_forms_of_runs(self):
        page = "switches a\nrule yes\nfirst show 3 next first show yes next\nonly a\n3\nother\nx\nover"
        self.assertEqual(told(page, "run a", "run -", "shows", "line", "kinds"), [
            "3 yes ends 3", "3 yes stuck", "3 yes stuck: when a take no otherwise yes\n3 yes ends 3: when a take yes otherwise no",
            "1 9", "yes"])
        self.assertEqual(told("switches a\nrule yes\nx", "run a", "shows"), ["stuck", "stuck: yes"])

    def test_line(self):
        self.assertEqual(told("switches a\nrule yes\nplus\nonly a\n1\nother\n2\nover\nwith show 3", "line"), ["1 6"])
        # Of the least line, not of the text.
        self.assertEqual(told("switches a\nrule yes\nonly a\n1\nother\n1\nover", "line", "keys", "askings"), ["0 1", "-", "0"])

    def test_wants(self):
        page = "switches a b\nrule yes\nlet x: 1 in\nonly a\nplus 2\nover\nonly b\nwith\nover\nshow"
        self.assertEqual(told(page, "read", "faults"), [
            "no", "6 an expression: when a take no otherwise when b take yes otherwise no\n"
            "7 with: when a take when b take no otherwise yes otherwise no\n"
            "8 an expression: when a take when b take yes otherwise no otherwise when b take no otherwise yes"])

    def test_nothing_due(self):
        self.assertEqual(told("switches a\nrule yes\n", "faults", "read", "words -", "branches", "blame", "run -"), [
            "0 an expression: yes", "no", "", "0 0", "none", "error BadSetting"])

    def test_blame(self):
        page = "switches a b\nrule yes\n1\nonly a\n2\nover\nonly b\n3\nover"
        self.assertEqual(told(page, "blame"), ["1 4"])
        either = "switches a\nrule yes\nonly a\n1\nover\nonly a\n1\nover"
        self.assertEqual(told(either, "blame"), ["0\n3"])
        self.assertEqual(told("switches a\nrule yes\n1 2", "blame"), ["none"])
        self.assertEqual(told("switches a\nrule yes\n1" + "\nonly a\nover" * 8, "blame", "branches"), ["-", "8 0"])
        self.assertEqual(told("switches a\nrule yes\n1" + "\nonly a\nover" * 9, "blame", "branches"), ["error TooMany", "9 0"])

    def test_branches(self):
        page = "switches a b\nrule yes\nonly a\n1\nover\nonly not a\n  only b\n 2\n other\n3\nover\nover"
        self.assertEqual(told(page, "branches"), ["4 3"])
        desk = Desk(page)
        self.assertEqual([desk.say("tidy"), desk.say("branches")], ["ok", "3 3"])

    def test_fate(self):
        self.assertEqual(told("switches a b c\nrule both a and not b\n1", "fate a", "fate b", "fate c", "fate d"), [
            "on", "off", "free", "error BadSwitch"])
        self.assertEqual(told("switches a\nrule no\n1", "fate a", "fate b"), ["none", "error BadSwitch"])

    def test_a_house_that_lets_none(self):
        page = page_text(NONE, "only a\n1\nother\n2 3\nover")
        self.assertEqual(told(page, "page", "read", "faults", "blame", "words a", "words -", "fate b"), [
            page, "no", "none", "-", "1", "2 3", "none"])
        self.assertEqual(told(page, "line", "kinds", "shows", "askings", "keys"), ["none"] * 5)
        self.assertEqual(told(page, "run a", "run -", "rewrite", "retire a on"), ["error BadSetting"] * 2 + ["error BadText"] * 2)
        self.assertEqual(told(page, "tidy", "words -", "branches"), ["ok", "", "0 0"])

    def test_settings(self):
        self.assertEqual(told(SHOWING, "words b+a", "words a+a", "words q", "words a+q", "run b+a", "run q", "run -"), [
            "error BadSetting"] * 7)
        # Of the good settings alone, where words are told of all.
        self.assertEqual(told(PAGE, "words -", "run -"), ["let x: 3 in 4 5", "error BadSetting"])

    def test_questions_on_the_line_are_in_the_good_house(self):
        page = "switches a b\nrule yes\nonly a\nonly b\n1\nother\n2\nover\nover"
        self.assertEqual(told(page, "read", "keys", "askings", "shows", "kinds"), [
            "when a take yes otherwise no", "b", "1", "ends 2: when a take when b take no otherwise yes otherwise no\n"
            "ends 1: when a take when b take yes otherwise no otherwise no", "when a take yes otherwise no"])

    def test_several_keys(self):
        self.assertEqual(told("switches b a\nrule when a take b otherwise not b\nonly a\n1\nother\n2\nover", "keys"), ["b\na"])


class TestDeeds(unittest.TestCase):
    def test_row(self):
        page = "switches a\nrule yes\nshow\nonly a\n1\nother\n2\nover"
        for line, text in (("row 2\n7", "show\nonly a\n7\nother\n2\nover"), ("row 0\nset x:\nshow", "set x:\nshow\nonly a\n1\nother\n2\nover"),
                           ("row 5\nover\n", "show\nonly a\n1\nother\n2\nover\n"), ("row 0\n", "\nonly a\n1\nother\n2\nover"),
                           ("row 1\nonly not a", "show\nonly not a\n1\nother\n2\nover"),
                           ("row 4\nonly a\n 5 \nover", "show\nonly a\n1\nother\nonly a\n 5 \nover\nover")):
            self.assertEqual(told(page, line, "page"), ["ok", "switches a\nrule yes\n" + text])
        for line in ("row 6\n1", "row 99999\n1", "row 10\nover"):
            self.assertEqual(told(page, line, "page", "undo"), ["error BadIndex", page, "error NothingDone"])
        for line in ("row 1\n1", "row 5\n1", "row 0\nover", "row 1\nonly b", "row 3\nother\nother"):
            self.assertEqual(told(page, line, "page", "undo"), ["error BadRows", page, "error NothingDone"])
        # Which row there is is judged first.
        self.assertEqual(told(page, "row 7\nonly q"), ["error BadIndex"])

    def test_no_rows_and_no_numbers(self):
        for line in ("row 2", "row", "row 02\n1", "row 00\n1", "row 123456\n1", "row -1\n1", "row +1\n1", "row x\n1", "row \n1", "row\n1",
                     "row 2 3\n1", "row 2 \n1", "row  2\n1", " row 2\n1", "row 1.0\n1", "rows 2\n1"):
            self.assertEqual(told(PAGE, line, "page", "undo"), ["what", PAGE, "error NothingDone"])

    def test_pages_as_lines(self):
        self.assertEqual(told(PAGE, SHOWING, "page", "undo", "page", "redo", "askings"), ["ok", SHOWING, "ok", PAGE, "ok", "2"])
        self.assertEqual(told(PAGE, "switches c\nrule  not  c\n 1 ", "page", "fate c", "fate a"), [
            "ok", "switches c\nrule not c\n 1 ", "off", "error BadSwitch"])
        for wrong in ("switches", "switches a", "switches a\nrule", "switches a\nrule yes", "switches a\nrule yes\nover",
                      "switches a a\nrule yes\n1", "switches if\nrule yes\n1"):
            self.assertEqual(told(PAGE, wrong, "page", "undo"), ["error BadRows", PAGE, "error NothingDone"])
        for wrong in ("switches  a\nrule yes\n1", " switches a\nrule yes\n1", "switches a \nrule yes\n1", "\nswitches a\nrule yes\n1",
                      "switch a\nrule yes\n1", "switches a\nrule yes\n\t1"):
            self.assertEqual(told(PAGE, wrong, "page", "undo"), ["what", PAGE, "error NothingDone"])

    def test_tidy(self):
        page = "switches a\nrule yes\nonly a\n1\nover\nonly not a\n2\nover"
        desk = Desk(page)
        self.assertEqual(desk.say("tidy"), "ok")
        house, text = read_page(desk.say("page"))
        self.assertEqual((house, text), (ONE, fewest_branches(ONE, read_page(page)[1])))
        # A deed that changes nothing is one, too.
        self.assertEqual([desk.say(line) for line in ("tidy", "undo", "branches", "undo", "page", "undo")], [
            "ok", "ok", "2 2", "ok", page, "error NothingDone"])

    def test_rewrite(self):
        page = "switches a\nrule yes\nonly a\nplus 1 with 2\nother\nplus 1 with 3\nover"
        line = reading(*read_page(page))[0]
        self.assertEqual(told(page, "rewrite", "page", "undo", "page"), ["ok", page_text(ONE, text_of(ONE, line)), "ok", page])
        for wrong in (PAGE, "switches a\nrule no\n1", "switches a\nrule yes\n", "switches a\nrule yes\nonly a\n1\nover"):
            self.assertEqual(told(wrong, "rewrite", "page", "undo"), ["error BadText", page_text(*read_page(wrong)), "error NothingDone"])

    def test_retire(self):
        line = reading(*read_page(SHOWING))[0]
        for s in "ab":
            for side in ("on", "off"):
                house, new = after(OR, line, ("retire", s, side))
                self.assertEqual(told(SHOWING, f"retire {s} {side}", "page", "undo", "page"), [
                    "ok", page_text(house, text_of(house, new)), "ok", SHOWING])
        self.assertEqual(told(SHOWING, "retire c on"), ["error BadStep"])
        self.assertEqual(told("switches a\nrule yes\n1", "retire a on", "retire a off", "retire b on"), [
            "error LastSwitch", "error LastSwitch", "error BadStep"])
        # A line that is not whole is refused ahead of a step that is none.
        self.assertEqual(told(PAGE, "retire a on", "retire q on", "undo"), ["error BadText", "error BadText", "error NothingDone"])
        self.assertEqual(told("switches a\nrule yes\nshow", "retire a on"), ["error BadText"])
        # A house that lets none may come of it.
        self.assertEqual(told("switches a b\nrule a\n1", "retire a off", "page", "line", "retire b on", "undo", "line"), [
            "ok", "switches b\nrule no\n", "none", "error BadText", "ok", "0 1"])
        for wrong in ("retire a", "retire a yes", "retire if on", "retire A on", "retire a on off", "retire - on", "retire a+b on"):
            self.assertEqual(told(SHOWING, wrong), ["what"])

    def test_undo_and_redo(self):
        desk = Desk("switches a\nrule yes\n0")
        self.assertEqual([desk.say("undo"), desk.say("redo")], ["error NothingDone", "error NothingUndone"])
        for number in "123":
            self.assertEqual(desk.say("row 0\n" + number), "ok")
        said = ["undo", "undo", "run a", "redo", "run a", "redo", "run a", "redo", "run a"]
        self.assertEqual([desk.say(line) for line in said], [
            "ok", "ok", "ends 1", "ok", "ends 2", "ok", "ends 3", "error NothingUndone", "ends 3"])
        # Behind a new deed nothing undone is left; behind a refused line and questions it still is.
        said = ["undo", "undo", "row 9\n1", "what", "row 0\nover", "tidy ", "redo", "run -"]
        self.assertEqual([desk.say(line) for line in said], [
            "ok", "ok", "error BadIndex", "what", "error BadRows", "what", "ok", "ends 2"])
        said = ["row 0\n9", "redo", "undo", "run -", "undo", "undo", "run -", "undo", "redo", "redo", "redo", "redo", "run -"]
        self.assertEqual([desk.say(line) for line in said], [
            "ok", "error NothingUndone", "ok", "ends 2", "ok", "ok", "ends 0", "error NothingDone", "ok", "ok", "ok",
            "error NothingUndone", "ends 9"])


class TestWhat(unittest.TestCase):
    def test_values_that_are_no_lines(self):
        desk = Desk(PAGE)
        for thing in STRANGE + (b"page", ["page"], ("page",), {"page": 1}, Desk, desk, "page\t", "page\r", "p\u00e4ge", "\u0661"):
            if thing != "house":
                self.assertEqual(desk.say(thing), "what", thing)
        for thing in ("house", "a", "yes", "", " ", "\n", "\n\n", "Page", "pages", "words", "run", "fate", "row", "retire", "switch"):
            self.assertEqual(desk.say(thing), "what", thing)
        self.assertEqual(desk.say("page"), PAGE)

    def test_blanks(self):
        for line in WORDS + ("tidy", "rewrite", "undo", "redo", "words a", "run b", "fate a", "retire a on"):
            for wrong in (" " + line, line + " ", line + "\n", "\n" + line, line + "\n" + line, line + " x", line.replace(" ", "  ") + "  "):
                self.assertEqual(told(SHOWING, wrong, "page"), ["what", SHOWING], wrong)
        for line in ("words  a", "run  b", "fate  a", "retire  a on", "retire a  on"):
            self.assertEqual(told(SHOWING, line), ["what"])

    def test_no_settings_and_no_names(self):
        for line in ("words a+", "words +a", "words +", "words a++b", "words --", "words -+a", "words if", "words A", "words a,b", "words a b",
                     "words abcdefghi", "words 1", "run a+", "run if+a", "run", "run a b", "fate if", "fate A", "fate -", "fate a+b", "fate 1",
                     "fate abcdefghi", "page a", "line 1", "fate a on", "words a on",
                     "retires a on", "a b on", "1 a off", "retire a on on"):
            self.assertEqual(told(SHOWING, line), ["what"], line)


def random_page(dice, house):
    """A page whose text is read for some settings, mostly."""
    line = dice.choice((random_line(dice, house[1], dice.randint(1, 14)), typed_line(dice, house[1], dice.randint(1, 12), wrong=0.1)))
    if dice.random() < 0.7:
        return page_text(house, line_text(dice, house, line))
    return page_text(house, random_text(dice, house, dice.randint(0, 8), dice.randint(0, 3), random_line(dice, (), 6)))


def random_said(dice, house, text):
    """Words of a line and the line itself: mostly a deed that can be done."""
    some = dice.random()
    if some < 0.1:
        page = random_page(dice, random_house(dice, dice.randint(1, 3)) if dice.random() < 0.5 else house)
        return page.split("\n")[0].split(), page
    if some < 0.35:
        rows = text.split("\n")
        at = dice.randint(0, len(rows)) if dice.random() < 0.2 else dice.randrange(len(rows))
        row = rows[at] if at < len(rows) else ""
        more = dice.choice((row, "1", "", row + "\nonly " + house[1][0] + "\nover", "only not " + house[1][0], row + " 2"))
        return ["row", str(at)], f"row {at}\n{more}"
    if some < 0.4:
        words = ["retire", dice.choice(house[1] + ("q",)), dice.choice(("on", "off"))]
    elif some < 0.5:
        words = [dice.choice(("words", "run")), "+".join(dice.choice(slow_all(house))) or "-"]
    elif some < 0.55:
        words = ["fate", dice.choice(house[1] + ("q",))]
    else:
        words = [dice.choice(("tidy", "rewrite", "undo", "undo", "redo", "redo") * 2 + WORDS)]
    return words, " ".join(words)


class TestByChance(unittest.TestCase):
    def test_against_a_model(self):
        dice = dice_of(1701)
        seen = {}
        for house in HOUSES * 12:
            page = random_page(dice, house)
            desk, model = Desk(page), Model(page)
            for _ in range(25):
                words, line = random_said(dice, *model.states[model.at])
                answer = desk.say(line)
                self.assertEqual(answer, model.answer(words, line), (page, line))
                self.assertEqual(desk.say("page"), model.answer(["page"], "page"))
                seen[words[0], answer[:5]] = seen.get((words[0], answer[:5]), 0) + 1
        for tag in ("switches", "row", "tidy", "rewrite", "retire", "undo", "redo"):
            self.assertGreater(seen[tag, "ok"], 8, seen)

    def test_desks_with_equal_pages_answer_alike(self):
        dice = dice_of(1702)
        for house in HOUSES:
            desk = Desk(random_page(dice, house))
            for _ in range(6):
                page = desk.say("page")
                self.assertEqual(answers(desk), answers(Desk(page)))
                for _ in range(3):
                    desk.say(random_said(dice, *read_page(page))[1])

    def test_tidy_changes_the_answers_on_rows_alone(self):
        dice = dice_of(1703)
        many = 0
        for house in HOUSES * 4:
            desk = Desk(random_page(dice, house))
            before, page = answers(desk, OF_ROWS), desk.say("page")
            self.assertEqual(desk.say("tidy"), "ok")
            self.assertEqual(answers(desk, OF_ROWS), before)
            many += desk.say("page") != page
            many_branches = desk.say("branches").split()
            self.assertEqual(many_branches[0], many_branches[1])
        self.assertGreater(many, 10)

    def test_rewrite_keeps_the_builds(self):
        dice = dice_of(1704)
        kept = 0
        for house in HOUSES * 3:
            page = random_page(dice, house)
            line, good, faults = reading(*read_page(page))
            desk = Desk(page)
            if line is not None and not faults:
                kept += 1
                self.assertEqual(desk.say("rewrite"), "ok")
                new = reading(*read_page(desk.say("page")))
                self.assertEqual(new[1:], (good, ()))
                self.assertIs(same_builds(house, line, new[0]), True)
        self.assertGreater(kept, 5)

    def test_seven_switches(self):
        line = num(0)
        for s in SEVEN[1]:
            line = ("then", ("show", when(s, num(1), num(0))), line)
        desk = Desk(page_text(SEVEN, text_of(SEVEN, line)))
        self.assertEqual(desk.say("keys"), "g+f+e+d+c+b+a")
        self.assertEqual(desk.say("askings"), "7")
        self.assertEqual(desk.say("run g+a"), "1 0 0 0 0 0 1 ends 0")
        self.assertEqual(len(desk.say("shows").split("\n")), 128)
        self.assertEqual([desk.say("retire g on"), desk.say("askings"), desk.say("fate f")], ["ok", "6", "free"])


if __name__ == "__main__":
    unittest.main()

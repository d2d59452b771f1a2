"""The interface: modules, names, arguments by position and by name, and what functions never do."""

import copy
import importlib
import inspect
import pathlib
import unittest

import manybuilds
from tests.helpers import AB, YES, num, plus, when

FOLDER = pathlib.Path(manybuilds.__file__).parent

# Modules in the order of the interface, with their functions and parameters.
MODULES = {
    "errors": {},
    "words": {"is_name": "thing"},
    "conditions": {
        "is_house": "thing", "is_setting": "house thing", "settings": "house", "is_condition": "house thing",
        "holds": "house condition setting", "plain": "house condition", "within": "house condition",
        "least_setting": "house condition", "how_many": "house condition", "fate": "house s"},
    "cubes": {"reasons": "house condition", "is_reason": "house condition thing", "bans": "house condition"},
    "lines": {
        "is_expression": "thing", "is_line": "house thing", "build": "house line setting", "chosen": "house line cube",
        "same_where": "house one other", "same_builds": "house one other", "builds": "house line",
        "stands": "house line path"},
    "running": {"run": "expression"},
    "least": {"is_ahead": "house one other", "least": "house line"},
    "floors": {"floor": "house line", "is_floor": "house line thing"},
    "fewest": {"fewest_lines": "house line", "count_fewest": "house line"},
    "moving": {"moved": "house line move", "way": "house one other"},
    "enough": {
        "is_enough": "house line lot", "enough_lots": "house line", "differences": "house line",
        "least_with": "house line lot"},
    "patching": {
        "is_patch": "thing", "is_edit": "thing", "edited": "expression edit", "between": "one other",
        "merge": "base one other"},
    "telling": {
        "is_told": "house thing", "patches": "house line told", "reach": "house line patch",
        "offers": "house line told setting"},
    "putting": {"least_way": "house line told", "put": "house line told condition"},
    "merging": {"clashes": "house base one other", "merged": "house base one other"},
    "views": {"view": "house line condition", "put_back": "house line condition part"},
    "copies": {
        "joined": "house copies", "guesses": "house copies", "possible": "house copies setting", "sure": "house copies"},
    "teaching": {"teaches": "house line lot", "teaching": "house line"},
    "conditiontexts": {"condition_text": "house condition", "condition_of": "house text"},
    "forks": {"told_words": "house text", "words_where": "house text setting"},
    "readings": {"reading": "house text", "due": "house text at"},
    "pieces": {"act": "text", "is_act": "thing", "behind": "one other", "least_words": "thing"},
    "surroundings": {"acts": "house text", "parting": "house one other"},
    "blame": {"taken": "house text fork", "freed": "house text", "freed_text": "house text lot"},
    "branches": {"fewest_branches": "house text", "unshared": "house text"},
    "linetexts": {"text_of": "house line"},
    "pages": {"read_page": "text", "page_text": "house text"},
    "ties": {
        "free": "house line", "ties": "house line", "joined_where": "house line one other", "good_where": "house line"},
    "chains": {"clash_cubes": "house line", "chain": "house line cube", "is_chain": "house line cube thing"},
    "mends": {
        "mend": "house line setting", "is_mend": "house line setting thing", "mend_all": "house line most",
        "is_mend_all": "house line most thing", "fewest_mends": "house line"},
    "rules": {
        "is_row": "house form thing", "keeps": "house form row setting", "hull": "house condition form",
        "rows_for": "house condition form", "told_by": "house condition form",
        "is_told_by": "house condition form thing", "further_rule": "house line form"},
    "parts": {"is_part": "house thing", "link_errors": "house parts", "right_where": "house parts"},
    "interfaces": {"interface": "house part", "is_interface": "house thing", "part_with": "house interface"},
    "composing": {"right_by": "house interfaces", "put_together": "house interfaces", "together": "house parts"},
    "replacing": {
        "may_replace": "house one other", "telling": "house one other", "is_telling": "house one other thing"},
    "linking": {"linked_build": "house parts setting x", "linked": "house parts x"},
    "books": {"book": "house line", "shows": "house line", "shows_where": "house one other"},
    "feeling": {"felt": "house line", "felt_by": "house line setting"},
    "askings": {"is_asking": "house line thing", "least_askings": "house line", "asking": "house line"},
    "fences": {"is_fence": "house line most thing", "fence": "house line most"},
    "marking": {"marks": "house lots", "tallies": "house line measure", "lots_of": "house line"},
    "weighing": {
        "weights": "house lots table", "is_balance": "house lots thing", "balance": "house lots table",
        "acting": "house table"},
    "ghosts": {
        "told_of": "house lots chosen setting", "tells": "house lots chosen", "is_ghost": "house lots chosen thing",
        "ghost": "house lots chosen", "fewest_chosen": "house lots costs", "foretold": "house lots chosen numbers"},
    "keying": {
        "is_key": "house line lot", "pair_against": "house line lot", "least_keys": "house line",
        "key_clashes": "house line"},
    "stepping": {
        "is_step": "house thing", "after": "house line step", "back": "house step setting", "lost": "house line step"},
    "intorun": {
        "moved_in": "house line lot", "answered": "house lot names setting line", "lifted": "house lot names line"},
    "desk": {},
}
LINE = plus(when("a", num(1), num(2)), num(3))
PART = ("part", (("give", "x", YES, plus(("name", "y"), num(1))), ("keep", "z", ("is", "a"), num(2))))
GIVER = ("part", (("give", "y", YES, num(3)),))
FACE = ("interface", ("no",), (("y", YES),), (), (), (("number", ("give", "y"), YES),))
VALUES = {
    "house": AB, "condition": ("is", "a"), "setting": ("a",), "line": LINE, "one": num(1), "other": num(1), "base": num(1),
    "cube": (("a",), ()), "path": (1,), "expression": num(1), "move": ("double", (), "a"), "lot": ("a",), "s": "a",
    "edit": (), "told": (), "patch": ("patch", (), num(1), num(2)), "thing": (), "part": num(2), "at": 1, "fork": 1,
    "copies": (((), num(1)), (("b",), num(1)), (("a",), num(2))), "text": "show\nonly a\n1\nother\n2\nover", "most": 1,
    "lots": (("a",), ("b",)), "table": (0, 1, 2, 3), "measure": ("sum",), "chosen": (("a",), ("b",), ()),
    "costs": (3, 0, 0, 1), "numbers": (1, 2, 3), "step": ("retire", "b", "on"), "names": ("c",), "form": "needs", "row": ("need", ("a",), "b"), "parts": (PART, GIVER), "interfaces": (FACE,), "interface": FACE, "x": "x",
}
# What a function takes by a name of VALUES that stands for something else with it.
OTHERS = {
    "teaches": {"lot": (("a",),)}, "freed_text": {"lot": (1,)}, "condition_of": {"text": "not a"},
    "read_page": {"text": "switches a b\nrule yes\n1"}, "parting": {"one": "show", "other": "1"},
    "behind": {"one": ((), ()), "other": ((), ())}, "least_words": {"thing": ((), ())},
    "interface": {"part": PART}, "may_replace": {"one": PART, "other": GIVER}, "telling": {"one": PART, "other": GIVER},
    "is_telling": {"one": PART, "other": GIVER},
    "joined_where": {"one": (1,), "other": ()}, "chain": {"line": plus(when("a", ("truth", "yes"), num(2)), num(3))},
}


def values_of(function, parameters):
    """A value for each parameter of the function."""
    known = {**VALUES, **OTHERS.get(function.__name__, {})}
    return [known[parameter] for parameter in parameters]


def functions():
    for name, known in MODULES.items():
        module = importlib.import_module("manybuilds." + name)
        for function, parameters in known.items():
            yield name, getattr(module, function), parameters.split()


class TestInterface(unittest.TestCase):
    def test_functions_are_defined_in_their_files(self):
        for name, function, _ in functions():
            self.assertEqual(function.__module__, "manybuilds." + name)
            self.assertTrue(inspect.isfunction(function))

    def test_parameters(self):
        for _, function, parameters in functions():
            self.assertEqual(list(inspect.signature(function).parameters), parameters, function)

    def test_by_position_and_by_name(self):
        for _, function, parameters in functions():
            values = values_of(function, parameters)
            told = function(*values)
            self.assertEqual(function(**dict(zip(parameters, values))), told, function)
            self.assertEqual(function(*copy.deepcopy(values)), told, function)

    def test_desk(self):
        desk = importlib.import_module("manybuilds.desk").Desk
        self.assertEqual(desk.__module__, "manybuilds.desk")
        self.assertEqual(list(inspect.signature(desk).parameters), ["text"])
        self.assertEqual(list(inspect.signature(desk("switches a\nrule yes\n1").say).parameters), ["line"])
        self.assertIn("say", vars(desk))

    def test_all_modules_are_here(self):
        for name in MODULES:
            self.assertTrue((FOLDER / f"{name}.py").is_file(), name)

    def test_kept_is_a_tuple(self):
        words = importlib.import_module("manybuilds.words")
        self.assertIs(type(words.KEPT), tuple)

    def test_init_defines_nothing(self):
        self.assertEqual((FOLDER / "__init__.py").read_text().strip(), "")

    def test_modules_import_only_what_is_ahead(self):
        order = list(MODULES)
        for name in order:
            for line in (FOLDER / f"{name}.py").read_text().splitlines():
                if line.startswith("from manybuilds."):
                    used = line.split()[1].partition(".")[2]
                    if used in order:
                        self.assertLess(order.index(used), order.index(name), line)
                    else:
                        self.assert_inner(used, order[:order.index(name)])

    def assert_inner(self, name, ahead):
        """A further module imports nothing of the interface that is not ahead."""
        for line in (FOLDER / f"{name}.py").read_text().splitlines():
            if line.startswith("from manybuilds."):
                used = line.split()[1].partition(".")[2]
                if used in MODULES:
                    self.assertIn(used, ahead)

    def test_results_are_plain(self):
        """Results are of tuples, strings, numbers, truths and None alone."""
        def assert_plain(thing):
            self.assertIn(type(thing), (tuple, str, int, bool, type(None)))
            for part in thing if isinstance(thing, tuple) else ():
                assert_plain(part)
        for _, function, parameters in functions():
            assert_plain(function(*values_of(function, parameters)))

    def test_a_tuple_must_be_a_tuple(self):
        self.assertEqual(YES, ("yes",))
        for _, function, parameters in functions():
            good = values_of(function, parameters)
            for at, parameter in enumerate(parameters):
                if isinstance(good[at], tuple):
                    values = good[:at] + [list(good[at])] + good[at + 1:]
                    kept = copy.deepcopy(values)
                    if parameter == "thing" and function.__name__ != "least_words":
                        self.assertIs(function(*values), False)
                    else:
                        with self.assertRaises(ValueError):
                            function(*values)
                    self.assertEqual(values, kept)


if __name__ == "__main__":
    unittest.main()

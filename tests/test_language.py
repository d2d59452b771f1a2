"""The rules of the language that can be read off the files of the package."""

import ast
import builtins
import pathlib
import re
import unittest

import manybuilds

FOLDER = pathlib.Path(manybuilds.__file__).parent
BUILTINS = set(
    "len range enumerate zip min max sum abs sorted reversed int str bool bytes list tuple dict set isinstance ord repr any all "
    "divmod Exception ValueError TypeError KeyError IndexError LookupError super".split())
METHODS = set(
    "append clear copy count endswith extend find get index insert isalnum isalpha isdigit islower isspace isupper items join "
    "keys ljust lower lstrip partition pop remove replace reverse rfind rjust rpartition rsplit rstrip setdefault split "
    "splitlines startswith strip update upper values zfill bit_length".split())
LIBRARY = {"itertools": {"product", "combinations", "permutations"}, "heapq": {"heappush", "heappop"}, "math": {"gcd"}}
BARRED = set(
    "register mro elements open input law version_info with_traceback add_note attrgetter breakpoint builtins compile copyright "
    "credits delattr dir eval exec exit gc globals help id importlib license locals methodcaller os quit vars sys".split())
STATEMENTS = (
    ast.Assign, ast.AugAssign, ast.If, ast.While, ast.For, ast.Return, ast.Break, ast.Continue, ast.Raise, ast.Expr,
    ast.Delete, ast.Try, ast.FunctionDef, ast.ClassDef, ast.ImportFrom)
BARRED_WORDS = re.compile(
    r"\b(type|typing|enum|Enum|Generic|Protocol|ABC|namedtuple|NamedTuple|TypedDict)\b|dataclass|overload|contextmanager")
ITERATED = {"zip", "enumerate", "reversed", "range"}


def files():
    return sorted(FOLDER.glob("*.py"))


def trees():
    for path in files():
        yield path, ast.parse(path.read_text())


class TestLanguage(unittest.TestCase):
    def test_files(self):
        for path in FOLDER.iterdir():
            if path.name != "__pycache__":
                self.assertRegex(path.name, r"^(__init__|[a-z][a-z0-9_]*)\.py$")
        self.assertLessEqual(len(files()), 100)

    def test_characters_and_lengths(self):
        for path in files():
            text = path.read_text(encoding="ascii")
            self.assertIsNone(re.search(r"[^ -~\n]", text), path)
            self.assertLessEqual(len(text.splitlines()), 399, path)
            self.assertLessEqual(max(map(len, text.splitlines()), default=0), 120, path)
            self.assertNotIn("_wall", text.lower())

    def test_functions_are_short(self):
        for path, tree in trees():
            for node in ast.walk(tree):
                if isinstance(node, ast.FunctionDef):
                    self.assertLessEqual(node.end_lineno - node.lineno + 1, 40, (path, node.name))
                    self.assertEqual(node.decorator_list, [])
                    self.assertIsNotNone(ast.get_docstring(node) or node.name.startswith("_"), (path, node.name))

    def test_imports(self):
        for path, tree in trees():
            for node in ast.walk(tree):
                self.assertNotIsInstance(node, ast.Import)
                if isinstance(node, ast.ImportFrom):
                    self.assertEqual(node.level, 0)
                    names = {name.name for name in node.names}
                    self.assertTrue(all(name.asname is None for name in node.names))
                    if node.module in LIBRARY:
                        self.assertLessEqual(names, LIBRARY[node.module])
                    else:
                        self.assertRegex(node.module, r"^manybuilds\.[a-z]+$")
                        self.assertLessEqual(names, self.defined(node.module), (path, node.module))

    def defined(self, module):
        path = FOLDER / (module.partition(".")[2] + ".py")
        found = set()
        for node in ast.parse(path.read_text()).body:
            if isinstance(node, (ast.FunctionDef, ast.ClassDef)):
                found.add(node.name)
            elif isinstance(node, ast.Assign):
                found.add(node.targets[0].id)
        return found

    def test_imports_are_used_and_go_in_no_ring(self):
        known = {}
        for path, tree in trees():
            used = {node.id for node in ast.walk(tree) if isinstance(node, ast.Name)}
            known[path.stem] = []
            for node in ast.walk(tree):
                if isinstance(node, ast.ImportFrom):
                    for name in node.names:
                        self.assertIn(name.name, used, path)
                    if node.module.startswith("manybuilds."):
                        known[path.stem].append(node.module.partition(".")[2])
        done = set()
        while len(done) < len(known):
            ready = [name for name in known if name not in done and all(other in done for other in known[name])]
            self.assertTrue(ready)
            done.update(ready)

    def test_statements(self):
        for path, tree in trees():
            for node in ast.walk(tree):
                if isinstance(node, ast.stmt):
                    self.assertIsInstance(node, STATEMENTS, (path, node.lineno))
                self.assertNotIsInstance(node, (ast.Yield, ast.YieldFrom, ast.Await, ast.SetComp, ast.NamedExpr, ast.Div))
                if isinstance(node, ast.Raise):
                    self.assertIsInstance(node.exc, ast.Call)
                if isinstance(node, ast.Constant):
                    self.assertNotIsInstance(node.value, (float, complex))
                if isinstance(node, ast.Constant) and isinstance(node.value, str):
                    self.assertNotIn("%", node.value)
            above = set()
            for node in tree.body:
                self.assertNotIsInstance(node, (ast.If, ast.While, ast.For, ast.AugAssign))
                if isinstance(node, ast.FunctionDef):
                    above.add(node.name)
                if isinstance(node, ast.Assign):
                    for each in ast.walk(node.value):
                        if not isinstance(each, ast.Name) or each.id not in above:
                            self.assertIsInstance(
                                each, (ast.Constant, ast.Tuple, ast.List, ast.Dict, ast.Load), (path, node.lineno))

    def test_names_and_builtins(self):
        for path, tree in trees():
            imported = {name.name for node in ast.walk(tree) if isinstance(node, ast.ImportFrom) for name in node.names}
            classes = {node.name for node in tree.body if isinstance(node, ast.ClassDef)}
            bound = {node.name for node in ast.walk(tree) if isinstance(node, (ast.FunctionDef, ast.ClassDef))}
            assigned = {node.id for node in ast.walk(tree) if isinstance(node, ast.Name) and isinstance(node.ctx, ast.Store)}
            assigned |= {node.arg for node in ast.walk(tree) if isinstance(node, ast.arg)}
            self.assertFalse(assigned & (imported | classes), path)
            for name in assigned | bound:
                self.assertNotIn(name, BARRED)
                if not name.startswith("__"):
                    self.assertFalse(hasattr(builtins, name), (path, name))
                    self.assertRegex(name, r"^_?[A-Za-z][A-Za-z0-9_]*$|^_$")
            handlers = [node for node in ast.walk(tree) if isinstance(node, ast.ExceptHandler)]
            caught = {node.name for node in handlers if node.name}
            self.assertFalse(caught & (imported | bound | assigned), path)
            for node in handlers:
                self.assertIn(node.type.id, imported, (path, node.lineno))
            known = imported | bound | assigned | caught
            for node in ast.walk(tree):
                if isinstance(node, ast.Name) and isinstance(node.ctx, ast.Load) and node.id not in known:
                    self.assertIn(node.id, BUILTINS, (path, node.lineno))

    def test_attributes(self):
        own, stored = set(), set()
        for _, tree in trees():
            for node in ast.walk(tree):
                if isinstance(node, ast.ClassDef):
                    own |= {each.name for each in node.body if isinstance(each, ast.FunctionDef)}
                if isinstance(node, ast.Attribute) and isinstance(node.ctx, ast.Store):
                    stored.add(node.attr)
        self.assertFalse((own | stored) & METHODS - {"count", "index", "find", "get", "join", "split", "copy"})
        for path, tree in trees():
            called = {id(node.func) for node in ast.walk(tree) if isinstance(node, ast.Call)}
            for node in ast.walk(tree):
                if isinstance(node, ast.Attribute):
                    self.assertIn(node.attr, own | stored | METHODS | {"__init__"}, (path, node.lineno))
                    if node.attr in METHODS - stored or node.attr in own - stored:
                        self.assertIn(id(node), called, (path, node.lineno))

    def test_what_is_iterated_at_once(self):
        for path, tree in trees():
            allowed = set()
            for node in ast.walk(tree):
                if isinstance(node, (ast.For, ast.comprehension)):
                    allowed.add(id(node.iter))
                if isinstance(node, ast.Call) and isinstance(node.func, ast.Name) and node.args:
                    if node.func.id in BUILTINS - {"set", "len", "reversed"}:
                        allowed.add(id(node.args[0]))
                    if node.func.id == "reversed" and isinstance(node.args[0], ast.Call):
                        if isinstance(node.args[0].func, ast.Name) and node.args[0].func.id == "range":
                            allowed.add(id(node.args[0]))
            for node in ast.walk(tree):
                if isinstance(node, ast.Call) and isinstance(node.func, ast.Name) and node.func.id in ITERATED:
                    self.assertIn(id(node), allowed, (path, node.lineno))
                if isinstance(node, ast.Call) and isinstance(node.func, ast.Attribute):
                    if node.func.attr in ("items", "keys", "values"):
                        self.assertIn(id(node), allowed, (path, node.lineno))
                if isinstance(node, ast.GeneratorExp):
                    self.assertIn(id(node), allowed, (path, node.lineno))

    def test_sets_stand_in_len_and_sorted_alone(self):
        for path, tree in trees():
            inside = set()
            for node in ast.walk(tree):
                if isinstance(node, ast.Call) and isinstance(node.func, ast.Name) and node.func.id in ("len", "sorted"):
                    inside.update(id(each) for each in node.args)
            for node in ast.walk(tree):
                self.assertNotIsInstance(node, ast.Set)
                if isinstance(node, ast.Call) and isinstance(node.func, ast.Name) and node.func.id == "set":
                    self.assertIn(id(node), inside, (path, node.lineno))

    def test_barred_words(self):
        for path, tree in trees():
            for node in ast.walk(tree):
                if isinstance(node, (ast.FunctionDef, ast.ClassDef, ast.Module)) and ast.get_docstring(node):
                    node.body = node.body[1:] or [ast.Pass()]
            self.assertIsNone(BARRED_WORDS.search(ast.unparse(tree)), path)

    def test_is_with_none_alone(self):
        for path, tree in trees():
            for node in ast.walk(tree):
                if isinstance(node, ast.Compare):
                    for sign, side in zip(node.ops, node.comparators):
                        if isinstance(sign, (ast.Is, ast.IsNot)):
                            self.assertTrue(isinstance(side, ast.Constant) and side.value in (None, True, False), path)


if __name__ == "__main__":
    unittest.main()

"""The rules of the language that a program can check by itself; the others remain for readers."""

import ast
import builtins
import pathlib
import re
import unittest

import versionjudge

FOLDER = pathlib.Path(versionjudge.__file__).parent
ALLOWED_BUILTINS = set("""
    len range enumerate zip min max sum abs sorted reversed int str bool bytes list tuple dict set frozenset isinstance
    ord repr any all divmod pow getattr hasattr setattr iter next map super property staticmethod classmethod object
    Exception ValueError TypeError KeyError IndexError LookupError ZeroDivisionError ArithmeticError OverflowError
    RuntimeError NotImplementedError AttributeError StopIteration NotImplemented
""".split())
LIBRARY = {
    "heapq": {"heappush", "heappop", "heapify", "heapreplace", "heappushpop"},
    "math": {"gcd", "lcm", "isqrt", "comb", "perm", "factorial"},
    "itertools": {"product", "combinations", "permutations", "chain", "accumulate", "pairwise", "islice",
                  "zip_longest"},
    "collections": {"defaultdict"},
}
BARRED_WORDS = set("""
    type typing typing_extensions enum Enum IntEnum StrEnum Flag IntFlag Generic Protocol ABC ABCMeta namedtuple
    NamedTuple TypedDict TYPE_CHECKING abstractmethod register mro elements open input law version_info with_traceback
    add_note
""".split())
BUILTIN_METHODS = set("""
    append clear copy count endswith extend find get index insert isalnum isalpha isdigit islower isspace isupper items
    join keys ljust lower lstrip partition pop remove replace reverse rfind rjust rpartition rsplit rstrip setdefault
    split splitlines startswith strip update upper values zfill bit_length add discard
""".split())
BARRED_NODES = (ast.Global, ast.AsyncFunctionDef, ast.AsyncFor, ast.AsyncWith, ast.Await, ast.Div, ast.TryStar)


def files():
    return sorted(FOLDER.glob("*.py"))


def bound_names(tree):
    """All names that a file gives a meaning, but not the names of methods and attributes."""
    methods = [item for node in ast.walk(tree) if isinstance(node, ast.ClassDef) for item in node.body]
    for node in ast.walk(tree):
        if isinstance(node, ast.arg):
            yield node.arg
        elif isinstance(node, ast.Name) and not isinstance(node.ctx, ast.Load):
            yield node.id
        elif isinstance(node, (ast.FunctionDef, ast.ClassDef)) and node not in methods:
            yield node.name


class LanguageTest(unittest.TestCase):
    def test_files(self):
        for path in FOLDER.iterdir():
            if path.name != "__pycache__":
                self.assertRegex(path.name, r"^[a-z_][a-z0-9_]*\.py$")

    def test_sizes_and_characters(self):
        for path in files():
            text = path.read_text(encoding="utf-8")
            self.assertLessEqual(len(text.splitlines()), 399, path)
            for row in text.split("\n"):
                self.assertLessEqual(len(row), 120, path)
                self.assertRegex(row, r"^[ -~]*$", path)
            for node in ast.walk(ast.parse(text)):
                if isinstance(node, ast.FunctionDef):
                    self.assertLessEqual(node.end_lineno - node.lineno + 1, 40, (path, node.name))

    def test_imports(self):
        for path in files():
            tree = ast.parse(path.read_text())
            imports = [node for node in ast.walk(tree) if isinstance(node, (ast.Import, ast.ImportFrom))]
            for node in imports:
                self.assertIsInstance(node, ast.ImportFrom, path)
                self.assertIn(node, tree.body, path)
                self.assertEqual(node.level, 0, path)
                names = {alias.name for alias in node.names}
                if node.module in LIBRARY:
                    self.assertLessEqual(names, LIBRARY[node.module], path)
                else:
                    self.assertRegex(node.module, r"^versionjudge\.[a-z_]+$", path)
                    tail = node.module.split(".")[1]
                    found = bound_names(ast.parse((FOLDER / f"{tail}.py").read_text()))
                    self.assertLessEqual(names, set(found), path)

    def test_statements_and_values(self):
        for path in files():
            for node in ast.walk(ast.parse(path.read_text())):
                self.assertNotIsInstance(node, BARRED_NODES, path)
                if isinstance(node, ast.Constant):
                    self.assertNotIsInstance(node.value, (float, complex), path)
                    if isinstance(node.value, str):
                        self.assertNotIn("%", node.value, path)

    def test_names(self):
        for path in files():
            tree = ast.parse(path.read_text())
            for name in bound_names(tree):
                self.assertNotIn(name, dir(builtins), path)
                self.assertFalse(name.startswith("__"), path)
            for node in ast.walk(tree):
                if isinstance(node, ast.Name) and isinstance(node.ctx, ast.Load) and node.id in dir(builtins):
                    self.assertIn(node.id, ALLOWED_BUILTINS, path)
                for word in [getattr(node, "id", ""), getattr(node, "attr", ""), getattr(node, "arg", "")]:
                    self.assertNotIn(word, BARRED_WORDS, path)

    def test_no_name_hides_a_class_or_an_import(self):
        for path in files():
            tree = ast.parse(path.read_text())
            held = [node.name for node in tree.body if isinstance(node, (ast.ClassDef, ast.FunctionDef))]
            held += [alias.name for node in tree.body if isinstance(node, ast.ImportFrom) for alias in node.names]
            self.assertEqual(len(held), len(set(held)), path)
            names = list(bound_names(tree))
            for name in held:
                self.assertLessEqual(names.count(name), 1, (path, name))

    def test_module_level(self):
        for path in files():
            for at, node in enumerate(ast.parse(path.read_text()).body):
                docstring = at == 0 and isinstance(node, ast.Expr) and isinstance(node.value, ast.Constant)
                kinds = (ast.ImportFrom, ast.FunctionDef, ast.ClassDef, ast.Assign)
                self.assertTrue(docstring or isinstance(node, kinds), path)
                if isinstance(node, ast.Assign):
                    self.assertEqual([type(target) for target in node.targets], [ast.Name], (path, node.lineno))
                    ast.literal_eval(node.value)

    def test_methods(self):
        trees = [(path, ast.parse(path.read_text())) for path in files()]
        classes = [node for _, tree in trees for node in ast.walk(tree) if isinstance(node, ast.ClassDef)]
        methods = {item.name for node in classes for item in node.body if isinstance(item, ast.FunctionDef)}
        attributes = {node.attr for _, tree in trees for node in ast.walk(tree)
                      if isinstance(node, ast.Attribute) and isinstance(node.ctx, ast.Store)}
        self.assertEqual(methods & attributes, set())
        for path, tree in trees:
            for node in ast.walk(tree):
                if isinstance(node, ast.Call) and isinstance(node.func, ast.Attribute):
                    self.assertIn(node.func.attr, BUILTIN_METHODS | methods, path)
                elif isinstance(node, ast.Attribute):
                    self.assertIn(node.attr, BUILTIN_METHODS | methods | attributes, path)
                if isinstance(node, (ast.FunctionDef, ast.ClassDef)):
                    self.assertEqual(node.decorator_list, [], path)

    def test_beside_an_equality_of_its_own(self):
        # Desks have an __eq__, so some things are narrower: L7, L19, L25.
        for path in files():
            for node in ast.walk(ast.parse(path.read_text())):
                self.assertNotIsInstance(node, ast.GeneratorExp, path)
                if isinstance(node, ast.Attribute):
                    self.assertNotEqual(node.attr, "sort", path)
                if isinstance(node, ast.ExceptHandler):
                    self.assertIn(node.type.id, ("BadText", "BadStory"), path)

    def test_stars_in_calls(self):
        # L7: behind a star only a name, an attribute off a name, or a literal.
        for path in files():
            for node in ast.walk(ast.parse(path.read_text())):
                if isinstance(node, ast.Call):
                    for part in node.args:
                        self.assertFalse(isinstance(part, ast.Starred) and not isinstance(part.value, ast.Name), path)

    def test_no_imports_in_a_circle(self):
        imported = {path.stem: {node.module.split(".")[1] for node in ast.walk(ast.parse(path.read_text()))
                                if isinstance(node, ast.ImportFrom) and node.module.startswith("versionjudge.")}
                    for path in files()}
        while imported:
            free = [name for name, others in imported.items() if not others & set(imported)]
            self.assertNotEqual(free, [], imported)
            imported = {name: others for name, others in imported.items() if name not in free}

    def test_words_that_stand_nowhere(self):
        for path in files():
            self.assertIsNone(re.search(r"\b(_wall|_WallAttr)\b", path.read_text()), path)


if __name__ == "__main__":
    unittest.main()

"""Some of the rules of LANGUAGE.md that can be seen in the files of the package."""

import ast
import builtins
import pathlib
import re
import unittest

FOLDER = pathlib.Path(__file__).resolve().parent.parent / "stretchprices"
FILES = sorted(path for path in FOLDER.iterdir() if path.name != "__pycache__")
BUILTINS = """len range enumerate zip min max sum abs sorted reversed int str bool bytes list tuple dict set isinstance
ord repr any all divmod property Exception ValueError TypeError KeyError IndexError LookupError""".split()
METHODS = """append clear copy count endswith extend find get index insert isalnum isalpha isdigit islower isspace
isupper items join keys ljust lower lstrip partition pop remove replace reverse rfind rjust rpartition rsplit rstrip
setdefault split splitlines startswith strip update upper values zfill bit_length""".split()
WORDS = """typing typing_extensions enum Enum IntEnum StrEnum Flag IntFlag Generic Protocol ABC ABCMeta namedtuple
NamedTuple TypedDict TYPE_CHECKING abstractmethod type dataclass overload contextmanager _wall _WallAttr""".split()
NAMES = "eval exec open input register elements law version_info with_traceback add_note mro".split()
LIBRARY = {"math": {"gcd", "lcm", "isqrt", "comb"}, "itertools": {"product", "combinations", "permutations"},
           "heapq": {"heappush", "heappop"}}
REFUSED = (ast.Global, ast.AsyncFunctionDef, ast.Await, ast.GeneratorExp, ast.Yield, ast.YieldFrom, ast.Div,
           ast.MatMult, ast.Import, ast.Set, ast.JoinedStr)


def trees():
    for path in FILES:
        yield path.name, ast.parse(path.read_text(encoding="utf-8"))


def without_docstrings(tree):
    for node in ast.walk(tree):
        if isinstance(node, (ast.Module, ast.FunctionDef, ast.ClassDef)) and ast.get_docstring(node) is not None:
            node.body = node.body[1:] or [ast.Pass()]
    return tree


def bound(tree):
    """All names that parameters, assignments, loops and definitions bind."""
    for node in ast.walk(tree):
        if isinstance(node, ast.arg):
            yield node.arg
        elif isinstance(node, ast.Name) and isinstance(node.ctx, ast.Store):
            yield node.id
        elif isinstance(node, (ast.FunctionDef, ast.ClassDef)):
            yield node.name


def imported(tree):
    return {name.asname or name.name: node.module for node in ast.walk(tree) if isinstance(node, ast.ImportFrom)
            for name in node.names}


class LanguageTest(unittest.TestCase):

    def test_files(self):
        for path in FILES:
            self.assertRegex(path.name, r"^[a-z_][a-z0-9_]*\.py$")
            text = path.read_text(encoding="utf-8")
            self.assertTrue(all(sign == "\n" or " " <= sign <= "~" for sign in text), path.name)
            lines = text.splitlines()
            self.assertLessEqual(len(lines), 399, path.name)
            self.assertLessEqual(max(map(len, lines)), 120, path.name)

    def test_functions_are_small(self):
        for name, tree in trees():
            for node in ast.walk(tree):
                if isinstance(node, ast.FunctionDef):
                    self.assertLessEqual(node.end_lineno - node.lineno + 1, 40, (name, node.name))
                    self.assertEqual([it.id for it in node.decorator_list if it.id != "property"], [])

    def test_imports(self):
        above = {}
        for name, tree in trees():
            above[name[:-3]] = set()
            for node in ast.walk(tree):
                if not isinstance(node, ast.ImportFrom):
                    continue
                self.assertIsNone([it.asname for it in node.names if it.asname] or None)
                if node.module in LIBRARY:
                    self.assertLessEqual({it.name for it in node.names}, LIBRARY[node.module])
                    continue
                package, file = node.module.split(".")
                self.assertEqual(package, "stretchprices")
                above[name[:-3]].add(file)
                home = ast.parse((FOLDER / (file + ".py")).read_text())
                there = {it.name for it in home.body if isinstance(it, (ast.FunctionDef, ast.ClassDef))}
                there |= {it.targets[0].id for it in home.body if isinstance(it, ast.Assign)}
                self.assertLessEqual({it.name for it in node.names}, there, (name, file))
        while above:
            free = [file for file in above if not above[file] & set(above)]
            self.assertTrue(free, above)
            for file in free:
                del above[file]

    def test_names(self):
        for name, tree in trees():
            classes = {node.name for node in tree.body if isinstance(node, ast.ClassDef)}
            taken = set(imported(tree))
            inside = [it for node in ast.walk(tree) if isinstance(node, ast.FunctionDef) for it in bound(node)
                      if it != node.name]
            self.assertEqual([it for it in inside if it in taken | classes], [], name)
            self.assertEqual([it for it in bound(tree) if hasattr(builtins, it) and it[:2] != "__"], [], name)
            self.assertTrue(all(re.match(r"^(_?[A-Za-z][A-Za-z0-9_]*|_|__[a-z]+__)$", it) for it in bound(tree)), name)
            top = [node.name for node in tree.body if isinstance(node, (ast.FunctionDef, ast.ClassDef))]
            self.assertEqual(len(top), len(set(top)), name)

    def test_words_and_forms(self):
        for name, tree in trees():
            plain = without_docstrings(tree)
            for node in ast.walk(plain):
                self.assertNotIsInstance(node, REFUSED, name)
                self.assertFalse(isinstance(node, ast.Constant) and isinstance(node.value, (float, complex)), name)
                if isinstance(node, ast.Constant) and isinstance(node.value, str):
                    self.assertNotIn("%", node.value)
                if isinstance(node, ast.BinOp) and isinstance(node.op, ast.Pow):
                    self.assertIsInstance(node.right, ast.Constant)
                if isinstance(node, ast.Compare) and isinstance(node.ops[0], (ast.Is, ast.IsNot)):
                    self.assertIn(node.comparators[0].value, (None, True, False))
            for word in WORDS:
                self.assertIsNone(re.search(r"\b" + word + r"\b", ast.unparse(plain)), (name, word))
            used = {getattr(node, field, None) for node in ast.walk(tree) for field in ("id", "attr", "arg", "name")}
            self.assertEqual([word for word in NAMES if word in used], [], name)

    def test_calls(self):
        own = {node.name for _, tree in trees() for node in ast.walk(tree) if isinstance(node, ast.FunctionDef)}
        for name, tree in trees():
            for node in ast.walk(tree):
                if isinstance(node, ast.Name) and hasattr(builtins, node.id):
                    self.assertIn(node.id, BUILTINS, name)
                if isinstance(node, ast.Call) and isinstance(node.func, ast.Attribute):
                    self.assertIn(node.func.attr, METHODS + sorted(own), name)


if __name__ == "__main__":
    unittest.main()

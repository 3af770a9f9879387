"""The rules of the language that can be seen in a file by itself: sizes, signs, words, imports, forms."""

import ast
import pathlib
import re
import unittest

PACKAGE = pathlib.Path(__file__).resolve().parent.parent / "fenlevel"
FILES = sorted(PACKAGE.glob("*.py"))
WORDS = ("type typing typing_extensions enum Enum IntEnum StrEnum Flag IntFlag Generic Protocol ABC ABCMeta "
         "namedtuple NamedTuple TypedDict TYPE_CHECKING abstractmethod").split()
BARRED_NAMES = "register mro elements open input version_info with_traceback add_note".split()
BARRED_FORMS = (ast.With, ast.Match, ast.Global, ast.Nonlocal, ast.Yield, ast.YieldFrom, ast.AsyncFunctionDef,
                ast.Await, ast.GeneratorExp, ast.NamedExpr, ast.Div, ast.Import)
BUILTINS = set("""len range enumerate zip min max sum abs sorted reversed int str bool bytes list tuple dict set
    isinstance ord repr any all divmod Exception ValueError TypeError KeyError IndexError LookupError
    ZeroDivisionError ArithmeticError OverflowError RuntimeError NotImplementedError AttributeError
    StopIteration""".split())
METHODS = set("""append clear copy count endswith extend find get index insert isalnum isalpha isdigit islower
    isspace isupper items join keys ljust lower lstrip partition pop remove replace reverse rfind rjust rpartition
    rsplit rstrip setdefault split splitlines startswith strip update upper values zfill bit_length""".split())
ALL_BUILTINS = set(dir(__builtins__) if not isinstance(__builtins__, dict) else __builtins__)


class Language(unittest.TestCase):
    def each(self):
        for path in FILES:
            with self.subTest(path.name):
                text = path.read_text(encoding="utf-8")
                yield path, text, list(ast.walk(ast.parse(text)))

    def test_the_folder(self):
        found = [path for path in PACKAGE.iterdir() if path.name != "__pycache__"]
        self.assertEqual(sorted(found), FILES)
        self.assertIn("__init__.py", [path.name for path in FILES])
        for path in FILES:
            self.assertRegex(path.name, r"\A[a-z0-9_]+\.py\Z")

    def test_sizes_and_signs(self):
        for path, text, nodes in self.each():
            self.assertRegex(text, r"\A[\n -~]*\Z")
            self.assertLessEqual(len(text.splitlines()), 400)
            self.assertLessEqual(max(map(len, text.splitlines())), 120)
            for node in nodes:
                if isinstance(node, ast.FunctionDef):
                    self.assertLessEqual(node.end_lineno - node.lineno + 1, 40)
                if isinstance(node, ast.Constant) and isinstance(node.value, str):
                    self.assertNotIn("%", node.value)

    def test_words_and_names(self):
        for path, text, nodes in self.each():
            self.assertEqual([word for word in WORDS if re.search(rf"\b{word}\b", text)], [])
            self.assertNotRegex(text, "dataclass|overload|contextmanager")
            for node in nodes:
                for field in ("id", "attr", "arg", "name"):
                    name = getattr(node, field, None)
                    self.assertNotIn(name, BARRED_NAMES)
                    if isinstance(name, str) and name not in ("__init__", "__eq__", "__repr__", "__str__", "__len__"):
                        self.assertFalse(name.startswith("_"), name)

    def test_imports_and_forms(self):
        for path, text, nodes in self.each():
            for node in nodes:
                self.assertNotIsInstance(node, BARRED_FORMS)
                if isinstance(node, ast.ImportFrom):
                    self.assertEqual((node.level, node.module.split(".")[0]), (0, "fenlevel"))
                if isinstance(node, (ast.FunctionDef, ast.ClassDef)):
                    self.assertEqual(node.decorator_list, [])
                if isinstance(node, ast.FunctionDef):
                    self.assertIsNone(node.args.vararg or node.args.kwarg)
                if isinstance(node, (ast.For, ast.While)):
                    self.assertEqual(node.orelse, [])

    def test_imports_name_the_file_that_defines_and_go_one_way(self):
        defined = {}
        imported = {}
        for path, text, nodes in self.each():
            name = f"fenlevel.{path.stem}"
            defined[name] = [node.name for node in ast.parse(text).body
                             if isinstance(node, (ast.FunctionDef, ast.ClassDef))]
            self.assertEqual(len(set(defined[name])), len(defined[name]))
            imported[name] = [node for node in nodes if isinstance(node, ast.ImportFrom)]
        for name, nodes in imported.items():
            for node in nodes:
                for alias in node.names:
                    self.assertIn(alias.name, defined[node.module])
        # Files without an import left are taken away until none is left; a ring of imports would stay.
        waiting = {name: {node.module for node in nodes} for name, nodes in imported.items()}
        while waiting:
            ready = [name for name in waiting if not waiting[name] & set(waiting)]
            self.assertTrue(ready, waiting)
            for name in ready:
                del waiting[name]

    def test_no_name_of_an_import_or_a_class_means_something_else(self):
        for path, text, nodes in self.each():
            names = {alias.name for node in nodes if isinstance(node, ast.ImportFrom) for alias in node.names}
            names |= {node.name for node in nodes if isinstance(node, ast.ClassDef)}
            stored = {node.id for node in nodes if isinstance(node, ast.Name) and isinstance(node.ctx, ast.Store)}
            stored |= {node.arg for node in nodes if isinstance(node, ast.arg)}
            self.assertEqual(names & stored, set())

    def test_methods_and_sets(self):
        for path, text, nodes in self.each():
            for node in nodes:
                # So far no class has methods, so each method that is called is one of a builtin value.
                if isinstance(node, ast.Call) and isinstance(node.func, ast.Attribute):
                    self.assertIn(node.func.attr, METHODS)
                    self.assertEqual(node.keywords, [])
                if isinstance(node, (ast.For, ast.comprehension)):
                    self.assertNotIsInstance(node.iter, (ast.Set, ast.SetComp))
                if isinstance(node, ast.Starred):
                    self.assertIsInstance(node.ctx, ast.Store)
                if isinstance(node, ast.Compare) and isinstance(node.ops[0], (ast.Is, ast.IsNot)):
                    self.assertIsInstance(node.comparators[0], ast.Constant)

    def test_builtins(self):
        for path, text, nodes in self.each():
            for node in nodes:
                if isinstance(node, ast.Name) and node.id in ALL_BUILTINS:
                    self.assertIn(node.id, BUILTINS)
                    self.assertIsInstance(node.ctx, ast.Load)
                if isinstance(node, ast.arg):
                    self.assertNotIn(node.arg, ALL_BUILTINS)


if __name__ == "__main__":
    unittest.main()

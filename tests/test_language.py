"""The rules of LANGUAGE.md that a look at the package's files can tell."""

import ast
import pathlib
import re
import unittest

PACKAGE = pathlib.Path(__file__).resolve().parent.parent / "ontheline"
FILES = sorted(PACKAGE.rglob("*.py"))
LIBRARY = {
    "heapq": {"heappush", "heappop", "heapify", "heapreplace", "heappushpop"},
    "math": {"gcd", "lcm", "isqrt", "comb", "perm", "factorial"},
    "itertools": {"product", "combinations", "permutations", "chain", "accumulate", "pairwise", "islice",
                  "zip_longest"},
    "collections": {"defaultdict"},
}
BUILTINS = set(
    "len range enumerate zip min max sum abs sorted reversed int str bool bytes list tuple dict set frozenset "
    "isinstance ord repr any all divmod pow getattr hasattr setattr iter next map super property staticmethod "
    "classmethod Exception ValueError TypeError KeyError IndexError LookupError ZeroDivisionError ArithmeticError "
    "OverflowError RuntimeError NotImplementedError AttributeError StopIteration NotImplemented".split())
NOT_ALLOWED = (
    ast.AsyncFunctionDef, ast.AsyncFor, ast.AsyncWith, ast.Await, ast.Global, ast.Import, ast.Div, ast.MatMult)
MODULE_LEVEL = (ast.ImportFrom, ast.FunctionDef, ast.ClassDef, ast.Assign)


def bound(part):
    if isinstance(part, (ast.FunctionDef, ast.ClassDef)):
        return [part.name]
    if isinstance(part, ast.ImportFrom):
        return [alias.name for alias in part.names]
    if isinstance(part, ast.Assign):
        return [target.id for target in part.targets]
    return []


class Language(unittest.TestCase):

    def each(self):
        self.assertTrue(FILES)
        texts = [path.read_text(encoding="utf-8") for path in FILES]
        return [(text, ast.parse(text)) for text in texts]

    def test_files(self):
        names = [path.name for path in PACKAGE.iterdir() if path.name != "__pycache__"]
        self.assertIn("__init__.py", names)
        for name in names:
            self.assertTrue(re.fullmatch("[a-z0-9_]+[.]py", name), name)

    def test_sizes_and_characters(self):
        for text, tree in self.each():
            lines = text.split("\n")
            self.assertLessEqual(len(lines) - 1, 399)
            self.assertLessEqual(max(len(line) for line in lines), 120)
            self.assertEqual([sign for sign in text if sign != "\n" and not " " <= sign <= "~"], [])
            for part in ast.walk(tree):
                if isinstance(part, ast.FunctionDef):
                    self.assertLessEqual(part.end_lineno - part.lineno + 1, 40, part.name)

    def test_imports(self):
        for _, tree in self.each():
            for part in ast.walk(tree):
                if isinstance(part, ast.ImportFrom):
                    self.assertEqual(part.level, 0)
                    if part.module in LIBRARY:
                        self.assertLessEqual({alias.name for alias in part.names}, LIBRARY[part.module])
                    else:
                        self.assert_own_import(part)

    def assert_own_import(self, part):
        self.assertTrue(part.module.startswith("ontheline."), part.module)
        source = PACKAGE / (part.module.partition(".")[2].replace(".", "/") + ".py")
        defined = {name for row in ast.parse(source.read_text()).body
                   if not isinstance(row, ast.ImportFrom) for name in bound(row)}
        for alias in part.names:
            self.assertIsNone(alias.asname)
            self.assertIn(alias.name, defined)

    def test_module_level_binds_each_name_once(self):
        for _, tree in self.each():
            rows = [row for row in tree.body if not isinstance(row, ast.Expr)]
            for row in rows:
                self.assertIsInstance(row, MODULE_LEVEL)
            names = [name for row in rows for name in bound(row)]
            self.assertEqual(sorted(names), sorted(set(names)))

    def test_no_barred_statements_numbers_or_texts(self):
        for _, tree in self.each():
            for part in ast.walk(tree):
                self.assertNotIsInstance(part, NOT_ALLOWED)
                if isinstance(part, ast.Constant):
                    self.assertNotIsInstance(part.value, (float, complex))
                    if isinstance(part.value, str):
                        self.assertNotIn("%", part.value)

    def test_builtins(self):
        known = set(dir(__builtins__) if not isinstance(__builtins__, dict) else __builtins__)
        for _, tree in self.each():
            for part in ast.walk(tree):
                if isinstance(part, ast.Name) and part.id in known:
                    self.assertIn(part.id, BUILTINS)
                    self.assertIsInstance(part.ctx, ast.Load)
                if isinstance(part, ast.arg):
                    self.assertNotIn(part.arg, known)
                if isinstance(part, (ast.FunctionDef, ast.ClassDef)):
                    self.assertNotIn(part.name, known)

    def test_no_local_name_is_that_of_an_import_or_a_class(self):
        for _, tree in self.each():
            barred = {name for row in tree.body if isinstance(row, (ast.ImportFrom, ast.ClassDef))
                      for name in bound(row)}
            for part in ast.walk(tree):
                if isinstance(part, ast.Name) and not isinstance(part.ctx, ast.Load):
                    self.assertNotIn(part.id, barred)
                if isinstance(part, ast.arg):
                    self.assertNotIn(part.arg, barred)


if __name__ == "__main__":
    unittest.main()

"""What ../shared/LANGUAGE.md asks of the package's files, so far as a glance can tell."""

import ast
import unittest
from pathlib import Path

PACKAGE = Path(__file__).resolve().parent.parent / "twonames"
FILES = sorted(path for path in PACKAGE.rglob("*") if "__pycache__" not in path.parts)
LIBRARY = {"heapq", "math", "itertools", "collections"}
KEPT_NAMES = {
    "len", "range", "enumerate", "zip", "min", "max", "sum", "abs", "sorted", "reversed", "int", "str", "bool", "list",
    "tuple", "dict", "set", "isinstance", "ord", "repr", "any", "all", "divmod", "type", "ValueError",
}


def functions_of(tree):
    return [node for node in ast.walk(tree) if isinstance(node, ast.FunctionDef)]


class Files(unittest.TestCase):
    def trees(self):
        for path in FILES:
            yield path, ast.parse(path.read_text(encoding="utf-8"))

    def test_the_folder_holds_only_python_files(self):
        self.assertTrue(FILES)
        for path in FILES:
            self.assertTrue(path.is_file() and path.suffix == ".py" and path.name == path.name.lower(), path)

    def test_sizes_and_signs(self):
        for path in FILES:
            text = path.read_text(encoding="utf-8")
            lines = text.split("\n")
            self.assertLessEqual(len(lines), 399, path)
            self.assertLessEqual(max(len(line) for line in lines), 120, path)
            self.assertTrue(all(sign == "\n" or " " <= sign <= "~" for sign in text), path)

    def test_functions_are_short(self):
        for path, tree in self.trees():
            for node in functions_of(tree):
                self.assertLessEqual(node.end_lineno - node.lineno + 1, 40, (path, node.name))

    def test_imports_are_of_the_package_by_full_names_or_of_the_library_that_is_allowed(self):
        for path, tree in self.trees():
            for node in ast.walk(tree):
                self.assertNotIsInstance(node, ast.Import, path)
                if isinstance(node, ast.ImportFrom):
                    self.assertEqual(node.level, 0, path)
                    self.assertIn(node.module.split(".")[0], LIBRARY | {"twonames"}, path)
                    self.assertIn(node, tree.body, path)

    def test_nothing_of_the_package_has_the_name_of_a_builtin_and_few_builtins_are_used(self):
        builtins = set(dir(__import__("builtins")))
        for path, tree in self.trees():
            bound = {node.name for node in ast.walk(tree) if isinstance(node, (ast.FunctionDef, ast.ClassDef))}
            bound |= {node.arg for node in ast.walk(tree) if isinstance(node, ast.arg)}
            names = [node for node in ast.walk(tree) if isinstance(node, ast.Name)]
            bound |= {node.id for node in names if isinstance(node.ctx, ast.Store)}
            self.assertEqual(bound & builtins, set(), path)
            self.assertLessEqual({node.id for node in names} & builtins, KEPT_NAMES, path)

    def test_no_statement_that_is_left_out_of_the_language(self):
        for path, tree in self.trees():
            for node in ast.walk(tree):
                self.assertNotIsInstance(node, (ast.Global, ast.AsyncFunctionDef, ast.Await, ast.Div), path)
                if isinstance(node, ast.Constant):
                    self.assertNotIsInstance(node.value, float, path)


if __name__ == "__main__":
    unittest.main()

"""The language: a first look at the rules that are easily broken unseen."""

import ast
import builtins
import pathlib
import unittest
import warnings

ROOT = pathlib.Path(__file__).resolve().parent.parent
FILES = sorted((ROOT / "propfall").rglob("*.py"))
LIBRARY = {
    "heapq": {"heappush", "heappop", "heapify", "heapreplace", "heappushpop"},
    "math": {"gcd", "lcm", "isqrt", "comb", "perm", "factorial"},
    "itertools": {"product", "combinations", "permutations", "chain", "accumulate", "pairwise", "islice",
                  "zip_longest"},
    "collections": {"defaultdict", "deque"}}
# As a class has __eq__, any, sum and the like take lists, no generator expressions.
BARRED = (ast.Div, ast.AsyncFunctionDef, ast.Await, ast.Import, ast.GeneratorExp)


def imports_of(path):
    """Tell a dict from the names that a file imports to the modules that they stand in."""
    return {alias.name: node.module for node in ast.walk(ast.parse(path.read_text()))
            if isinstance(node, ast.ImportFrom) for alias in node.names}


def names_within(path):
    """Tell the names of parameters and of what functions assign in a file."""
    found = set()
    for node in ast.walk(ast.parse(path.read_text())):
        if isinstance(node, ast.FunctionDef):
            found |= {inner.arg for inner in ast.walk(node) if isinstance(inner, ast.arg)}
            found |= {inner.id for inner in ast.walk(node)
                      if isinstance(inner, ast.Name) and isinstance(inner.ctx, ast.Store)}
    return found


class Language(unittest.TestCase):
    def test_the_package_holds_files_of_the_program_alone(self):
        for path in (ROOT / "propfall").rglob("*"):
            if path.is_file() and "__pycache__" not in path.parts:
                self.assertEqual(path.suffix, ".py", path)
        self.assertIn(ROOT / "propfall" / "__init__.py", FILES)

    def test_sizes_and_signs(self):
        for path in FILES:
            text = path.read_bytes().decode("ascii")
            self.assertTrue(all(sign == "\n" or " " <= sign <= "~" for sign in text), path)
            self.assertLessEqual(len(text.splitlines()), 399, path)
            self.assertLessEqual(max(map(len, text.splitlines())), 120, path)
            self.assertNotIn("_wall", text, path)
            for node in ast.walk(ast.parse(text)):
                if isinstance(node, ast.FunctionDef):
                    self.assertLessEqual(node.end_lineno - node.lineno + 1, 40, (path, node.name))

    def test_nothing_that_python_warns_of(self):
        for path in FILES:
            with warnings.catch_warnings():
                warnings.simplefilter("error")
                compile(path.read_text(), str(path), "exec")

    def test_imports(self):
        for path in FILES:
            for node in ast.walk(ast.parse(path.read_text())):
                if isinstance(node, ast.ImportFrom):
                    self.assertEqual(node.level, 0, path)
                    names = {alias.name for alias in node.names}
                    if not node.module.startswith("propfall."):
                        self.assertLessEqual(names, LIBRARY[node.module], path)

    def test_imports_name_the_file_that_defines_and_go_one_way(self):
        behind = {}
        for path in FILES:
            named = imports_of(path)
            behind[f"propfall.{path.stem}"] = set(named.values())
            for name, module in named.items():
                if module.startswith("propfall."):
                    body = ast.parse((ROOT / (module.replace(".", "/") + ".py")).read_text()).body
                    defined = {getattr(node, "name", None) for node in body}
                    defined |= {node.targets[0].id for node in body if isinstance(node, ast.Assign)}
                    self.assertIn(name, defined, path)
        while behind:
            free = [name for name, needed in behind.items() if not needed & set(behind)]
            self.assertTrue(free, behind)
            for name in free:
                del behind[name]

    def test_no_name_within_has_another_meaning(self):
        for path in FILES:
            classes = {node.name for node in ast.parse(path.read_text()).body if isinstance(node, ast.ClassDef)}
            self.assertFalse(names_within(path) & (set(imports_of(path)) | classes | set(dir(builtins))), path)

    def test_no_points_and_no_barred_forms(self):
        for path in FILES:
            for node in ast.walk(ast.parse(path.read_text())):
                self.assertNotIsInstance(node, BARRED, path)
                if isinstance(node, ast.Constant):
                    self.assertNotIsInstance(node.value, (float, complex), path)
                    self.assertNotIn("%", str(node.value), path)


if __name__ == "__main__":
    unittest.main()

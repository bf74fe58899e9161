"""A few of the language's rules, as far as they are quickly seen in the package's files."""

import ast
import builtins
import unittest
from pathlib import Path

PACKAGE = Path(__file__).resolve().parent.parent / "cornerdrifts"
# L8, without those that later rules narrow.
BUILTINS = set(
    "len range enumerate zip min max sum abs sorted reversed int str bool list tuple dict set isinstance ord repr "
    "any all divmod iter next pow ValueError KeyError IndexError LookupError ZeroDivisionError StopIteration "
    "NotImplemented".split()
)
# L2, the library.
LIBRARY = {
    "heapq": {"heappush", "heappop", "heapify", "heapreplace", "heappushpop"},
    "math": {"gcd", "lcm", "isqrt", "comb", "perm", "factorial"},
    "itertools": {
        "product", "combinations", "permutations", "chain", "accumulate", "pairwise", "islice", "zip_longest",
    },
    "collections": {"defaultdict", "deque"},
}
BARRED = (ast.AsyncFunctionDef, ast.Import, ast.Div)


def files():
    return sorted(PACKAGE.glob("*.py"))


def trees():
    return [(path.name, ast.parse(path.read_text())) for path in files()]


class Language(unittest.TestCase):
    def test_the_folder_has_python_files_alone(self):
        others = [path.name for path in PACKAGE.iterdir() if path.suffix != ".py" and path.name != "__pycache__"]
        self.assertEqual(others, [])
        self.assertIn("__init__.py", [path.name for path in files()])

    def test_sizes_and_characters(self):
        for path in files():
            text = path.read_text()
            self.assertLessEqual(len(text.split("\n")), 399, path.name)
            for number, line in enumerate(text.split("\n"), start=1):
                self.assertLessEqual(len(line), 120, (path.name, number))
                self.assertTrue(all(" " <= sign <= "~" for sign in line), (path.name, number))

    def test_functions_are_small(self):
        for name, tree in trees():
            for node in ast.walk(tree):
                if isinstance(node, ast.FunctionDef):
                    self.assertLessEqual(node.end_lineno - node.lineno + 1, 40, (name, node.name))

    def test_imports(self):
        for name, tree in trees():
            for node in ast.walk(tree):
                if isinstance(node, ast.ImportFrom):
                    self.assertEqual(node.level, 0, name)
                    if node.module in LIBRARY:
                        self.assertLessEqual({alias.name for alias in node.names}, LIBRARY[node.module], name)
                    else:
                        self.assertTrue(node.module.startswith("cornerdrifts."), (name, node.module))
                        known = ast.parse((PACKAGE / (node.module.split(".")[1] + ".py")).read_text()).body
                        bound = {item.name for item in known if isinstance(item, (ast.FunctionDef, ast.ClassDef))}
                        bound |= {item.targets[0].id for item in known if isinstance(item, ast.Assign)}
                        self.assertLessEqual({alias.name for alias in node.names}, bound, name)

    def test_imported_names_are_used_and_keep_their_meaning(self):
        for name, tree in trees():
            imported = {alias.name for node in tree.body if isinstance(node, ast.ImportFrom) for alias in node.names}
            loads, others = set(), set()
            for node in ast.walk(tree):
                if isinstance(node, ast.Name):
                    (loads if isinstance(node.ctx, ast.Load) else others).add(node.id)
                if isinstance(node, ast.arg):
                    others.add(node.arg)
                if isinstance(node, ast.FunctionDef):
                    others.add(node.name)
            self.assertLessEqual(imported, loads, name)
            self.assertEqual(imported & others, set(), name)

    def test_no_barred_parts(self):
        for name, tree in trees():
            for node in ast.walk(tree):
                self.assertNotIsInstance(node, BARRED, (name, getattr(node, "lineno", 0)))
                if isinstance(node, ast.Constant):
                    self.assertNotIsInstance(node.value, (float, complex), name)

    def test_builtins(self):
        # Doctests bind _ there.
        known = set(dir(builtins)) - {"_"}
        for name, tree in trees():
            for node in ast.walk(tree):
                if isinstance(node, ast.Name) and node.id in known:
                    self.assertIn(node.id, BUILTINS, (name, node.lineno))
                    self.assertIsInstance(node.ctx, ast.Load, (name, node.lineno))
                if isinstance(node, ast.arg):
                    self.assertNotIn(node.arg, known, name)

"""Tests of the form of the package: what can be read off its files."""

import ast
import builtins
import pathlib
import re
import unittest

from tests.interface import DECORATED, INTERFACE, METHODS

ROOT = pathlib.Path(__file__).resolve().parent.parent
PACKAGE = ROOT / "peakpeel"

BUILTINS = set(
    "len range enumerate zip min max sum abs sorted reversed int str bool bytes list tuple dict set frozenset isinstance"
    " ord repr any all divmod pow getattr hasattr setattr iter next type super map property staticmethod classmethod"
    " Exception ValueError TypeError KeyError IndexError LookupError ZeroDivisionError ArithmeticError OverflowError"
    " RuntimeError NotImplementedError AttributeError StopIteration NotImplemented".split()
)
LIBRARY = {
    "heapq": {"heappush", "heappop", "heapify", "heapreplace", "heappushpop"},
    "math": {"gcd", "lcm", "isqrt", "comb", "perm", "factorial"},
    "itertools": {"product", "combinations", "permutations", "chain", "accumulate", "pairwise", "islice", "zip_longest"},
    "collections": {"defaultdict", "deque"},
}
DECORATORS = re.compile(r"property|\w+\.setter|staticmethod|classmethod")
FORBIDDEN = (
    ast.AsyncFunctionDef, ast.AsyncFor, ast.AsyncWith, ast.Await, ast.Import, ast.Div, ast.MatMult, ast.TryStar,
)


def files():
    return sorted(PACKAGE.glob("*.py"))


def tree_of(path):
    return ast.parse(path.read_text(encoding="utf-8"))


def bound_names(tree):
    """All names that a file gives a meaning: by imports, definitions, parameters and targets."""
    names = set()
    for node in ast.walk(tree):
        if isinstance(node, ast.alias):
            names.add(node.asname or node.name)
        elif isinstance(node, (ast.FunctionDef, ast.ClassDef)):
            names.add(node.name)
        elif isinstance(node, ast.arg):
            names.add(node.arg)
        elif isinstance(node, ast.Name) and not isinstance(node.ctx, ast.Load):
            names.add(node.id)
        elif isinstance(node, ast.ExceptHandler) and node.name:
            names.add(node.name)
    return names


def imports_of(tree):
    """The imported names of a file, as tuples of the module and the name."""
    found = []
    for node in ast.walk(tree):
        if isinstance(node, ast.ImportFrom):
            found += [(node.module, alias.name, alias.asname, node.level) for alias in node.names]
    return found


class FileTest(unittest.TestCase):
    def test_folder(self):
        found = [path.name for path in PACKAGE.iterdir() if path.name != "__pycache__"]
        self.assertIn("__init__.py", found)
        for name in found:
            self.assertRegex(name, r"\A[a-z0-9_]+\.py\Z")

    def test_lines(self):
        for path in files():
            text = path.read_text(encoding="utf-8")
            self.assertRegex(text, r"\A[ -~\n]*\Z", path.name)
            lines = text.splitlines()
            self.assertLess(len(lines), 400, path.name)
            self.assertLessEqual(max([len(line) for line in lines], default=0), 120, path.name)

    def test_functions(self):
        for path in files():
            for node in ast.walk(tree_of(path)):
                if isinstance(node, ast.FunctionDef):
                    self.assertLessEqual(node.end_lineno - node.lineno + 1, 40, node.name)
                    for decorator in node.decorator_list:
                        self.assertTrue(DECORATORS.fullmatch(ast.unparse(decorator)), node.name)

    def test_imports(self):
        seen = {path.stem: set() for path in files()}
        for path in files():
            for module, name, other_name, level in imports_of(tree_of(path)):
                self.assertEqual((other_name, level), (None, 0), path.name)
                if module in LIBRARY:
                    self.assertIn(name, LIBRARY[module])
                    continue
                self.assertRegex(module, r"\Apeakpeel\.\w+\Z")
                source = module.partition(".")[2]
                defined = tree_of(PACKAGE / f"{source}.py").body
                names = [getattr(node, "name", None) for node in defined]
                names += [node.targets[0].id for node in defined if isinstance(node, ast.Assign)]
                self.assertIn(name, names)
                seen[path.stem].add(source)
        while seen:
            free = [stem for stem in seen if not seen[stem] & set(seen)]
            self.assertTrue(free, "files import from each other")
            for stem in free:
                del seen[stem]

    def test_nodes_and_builtins(self):
        for path in files():
            tree = tree_of(path)
            own = bound_names(tree)
            self.assertEqual(own & set(dir(builtins)), set(), path.name)
            for node in ast.walk(tree):
                self.assertNotIsInstance(node, FORBIDDEN, path.name)
                if isinstance(node, ast.Name):
                    self.assertIn(node.id, own | BUILTINS, path.name)
                if isinstance(node, ast.Constant):
                    self.assertNotIsInstance(node.value, (float, complex), path.name)
                    self.assertNotIn("%", node.value if isinstance(node.value, str) else "", path.name)

    def test_interface_stands_in_its_files(self):
        for stem, parts in INTERFACE.items():
            defined = {}
            for node in tree_of(PACKAGE / f"{stem}.py").body:
                if isinstance(node, ast.FunctionDef):
                    defined[node.name] = [arg.arg for arg in node.args.args]
                elif isinstance(node, ast.ClassDef):
                    defined[node.name] = None
                    self.check_methods(node)
            for name, parameters in parts.items():
                self.assertIn(name, defined, stem)
                self.assertEqual(defined[name], parameters, name)

    def check_methods(self, node):
        methods = {part.name: part for part in node.body if isinstance(part, ast.FunctionDef)}
        for name, parameters in METHODS.get(node.name, {}).items():
            self.assertIn(name, methods, node.name)
            if parameters is not None:
                self.assertEqual(ast.unparse(methods[name].args), parameters, name)
            decorators = [ast.unparse(decorator) for decorator in methods[name].decorator_list]
            self.assertEqual(decorators, [known for known, names in DECORATED.items() if name in names], name)

"""The files of the package keep to the small subset of Python that they are written in (the rules that can be seen)."""

import ast
import builtins
import unittest
from pathlib import Path

FOLDER = Path(__file__).resolve().parent.parent / "endsandround"
FILES = sorted(FOLDER.glob("*.py"))
LIBRARY = {
    "heapq": {"heappush", "heappop", "heapify", "heapreplace", "heappushpop"},
    "math": {"gcd", "lcm", "isqrt", "comb", "perm", "factorial"},
    "itertools": {"product", "combinations", "permutations", "chain", "accumulate", "pairwise", "islice",
                  "zip_longest"},
    "collections": {"defaultdict"},
}
BUILTIN_NAMES = set(dir(builtins))
BUILTINS = set(
    "len range enumerate zip min max sum abs sorted reversed int str bool bytes list tuple dict set frozenset "
    "isinstance ord repr any all divmod pow map iter next ValueError".split()
)
METHODS = set(
    "append clear copy count endswith extend find get index insert isalnum isalpha isdigit islower isspace isupper "
    "items join keys ljust lower lstrip partition pop remove replace reverse rfind rjust rpartition rsplit rstrip "
    "setdefault split splitlines startswith strip update upper values zfill bit_length add discard".split()
)
BARRED = set(
    "register mro elements open input law version_info with_traceback add_note type typing enum dataclass".split()
)
AT_ONCE = {"zip", "range", "enumerate", "reversed"}
TAKERS = {"list", "tuple", "dict", "sorted", "sum", "any", "all", "enumerate", "zip", "min", "max", "len",
          "permutations", "combinations"}
NODES_NOT_USED = (
    ast.Global, ast.AsyncFunctionDef, ast.AsyncFor, ast.AsyncWith, ast.Await, ast.Div, ast.MatMult,
    ast.Import, ast.Yield, ast.YieldFrom, ast.AnnAssign,
)


def own_names(tree):
    return {
        target
        for node in tree.body
        for target in (
            [node.name] if isinstance(node, (ast.FunctionDef, ast.ClassDef))
            else [node.targets[0].id] if isinstance(node, ast.Assign)
            else []
        )
    }


TREES = {path.stem: ast.parse(path.read_text(encoding="ascii")) for path in FILES}
OWN_METHODS = {
    node.name
    for tree in TREES.values()
    for kind in ast.walk(tree) if isinstance(kind, ast.ClassDef)
    for node in kind.body if isinstance(node, ast.FunctionDef)
}


def bound_names(tree):
    """All names of parameters, variables and nested functions."""
    for node in ast.walk(tree):
        if isinstance(node, ast.arg):
            yield node.arg
        elif isinstance(node, ast.Name) and isinstance(node.ctx, ast.Store):
            yield node.id
        elif isinstance(node, (ast.FunctionDef, ast.ClassDef)):
            yield node.name


def imported(tree):
    return [alias.name for node in tree.body if isinstance(node, ast.ImportFrom) for alias in node.names]


class LanguageTest(unittest.TestCase):
    def test_folder(self):
        for path in FOLDER.iterdir():
            self.assertTrue(path.suffix == ".py" or path.name == "__pycache__", path)
            self.assertEqual(path.name, path.name.lower())
        self.assertLessEqual(len(FILES), 100)

    def test_sizes_and_characters(self):
        for path in FILES:
            text = path.read_text(encoding="ascii")
            self.assertLessEqual(len(text.splitlines()), 399, path)
            self.assertTrue(all(" " <= sign <= "~" or sign == "\n" for sign in text), path)
            for line in text.splitlines():
                self.assertLessEqual(len(line), 120, (path, line))
        for name, tree in TREES.items():
            for node in ast.walk(tree):
                if isinstance(node, ast.FunctionDef):
                    self.assertLessEqual(node.end_lineno - node.lineno + 1, 40, (name, node.name))

    def test_module_level(self):
        for name, tree in TREES.items():
            self.assertIsNotNone(ast.get_docstring(tree), name)
            for node in tree.body[1:]:
                self.assertIsInstance(node, (ast.ImportFrom, ast.FunctionDef, ast.ClassDef, ast.Assign), name)
                if isinstance(node, ast.Assign):
                    ast.literal_eval(node.value)

    def test_imports(self):
        needs = {}
        for name, tree in TREES.items():
            needs[name] = set()
            used = {node.id for node in ast.walk(tree) if isinstance(node, ast.Name)}
            for node in tree.body:
                if not isinstance(node, ast.ImportFrom):
                    continue
                self.assertEqual(node.level, 0)
                names = {alias.name for alias in node.names}
                self.assertTrue(all(alias.asname is None for alias in node.names))
                self.assertLessEqual(names, used, name)
                if node.module in LIBRARY:
                    self.assertLessEqual(names, LIBRARY[node.module], name)
                else:
                    package, _, source = node.module.partition(".")
                    self.assertEqual(package, "endsandround")
                    self.assertLessEqual(names, own_names(TREES[source]), (name, source))
                    needs[name].add(source)
        done = set()
        while len(done) < len(needs):
            ready = {name for name in needs if name not in done and needs[name] <= done}
            self.assertTrue(ready, "files import from each other")
            done |= ready

    def test_names(self):
        for name, tree in TREES.items():
            taken = set(imported(tree))
            self.assertEqual(len(taken), len(imported(tree)), name)
            for bound in bound_names(tree):
                self.assertNotIn(bound, taken, name)
                self.assertNotIn(bound, BARRED, name)
                self.assertNotIn(bound, BUILTIN_NAMES, name)
            for node in ast.walk(tree):
                if isinstance(node, ast.Name) and node.id in BUILTIN_NAMES:
                    self.assertIn(node.id, BUILTINS, name)
                if isinstance(node, ast.Attribute):
                    self.assertNotIn(node.attr, BARRED, name)

    def test_nodes(self):
        for name, tree in TREES.items():
            for node in ast.walk(tree):
                self.assertNotIsInstance(node, NODES_NOT_USED, name)
                if isinstance(node, (ast.FunctionDef, ast.ClassDef)):
                    self.assertEqual(node.decorator_list, [], name)
                if isinstance(node, ast.Constant):
                    self.assertNotIsInstance(node.value, (float, complex), name)
                if isinstance(node, ast.Constant) and isinstance(node.value, str):
                    self.assertNotIn("%", node.value, name)
                if isinstance(node, ast.Compare):
                    for sign, side in zip(node.ops, node.comparators):
                        if isinstance(sign, (ast.Is, ast.IsNot)):
                            self.assertIsInstance(side, ast.Constant, name)

    def test_no_star_in_the_brackets_of_a_subscript(self):
        for name, tree in TREES.items():
            for node in ast.walk(tree):
                if isinstance(node, ast.Subscript):
                    stars = [part for part in ast.walk(node.slice) if isinstance(part, ast.Starred)]
                    self.assertEqual(stars, [], (name, node.lineno))

    def test_tries(self):
        for name, tree in TREES.items():
            for node in ast.walk(tree):
                if not isinstance(node, ast.Try):
                    continue
                for handler in node.handlers:
                    self.assertIsInstance(handler.type, ast.Name, name)
                    self.assertIn(handler.type.id, own_names(TREES["errors"]), (name, node.lineno))
                for part in node.finalbody:
                    self.assertIsInstance(part, ast.Assign, (name, part.lineno))
                    self.assertIsInstance(part.value, (ast.Name, ast.Attribute), (name, part.lineno))

    def test_calls(self):
        for name, tree in TREES.items():
            for node in ast.walk(tree):
                if not isinstance(node, ast.Call):
                    continue
                if isinstance(node.func, ast.Name) and node.func.id in ("any", "all", "min", "max", "sum", "sorted"):
                    for argument in node.args:
                        self.assertNotIsInstance(argument, ast.GeneratorExp, (name, node.lineno))
                if isinstance(node.func, ast.Attribute):
                    self.assertIn(node.func.attr, METHODS | OWN_METHODS, (name, node.lineno))

    def test_iterated_at_once(self):
        for name, tree in TREES.items():
            good = set()
            for node in ast.walk(tree):
                if isinstance(node, (ast.For, ast.comprehension)):
                    good.add(id(node.iter))
                elif isinstance(node, ast.Call) and isinstance(node.func, ast.Name) and node.func.id in TAKERS:
                    good |= {id(argument) for argument in node.args}
            for node in ast.walk(tree):
                if isinstance(node, ast.Call) and isinstance(node.func, ast.Name) and node.func.id in AT_ONCE:
                    self.assertIn(id(node), good, (name, node.lineno))

    def test_sets_are_only_sorted(self):
        for name, tree in TREES.items():
            good = set()
            for node in ast.walk(tree):
                if isinstance(node, ast.Call) and isinstance(node.func, ast.Name) and node.func.id in ("sorted", "len"):
                    good |= {id(argument) for argument in node.args}
            for node in ast.walk(tree):
                if isinstance(node, (ast.SetComp, ast.Set)):
                    self.assertIn(id(node), good, (name, node.lineno))

    def test_one_lambda_a_line(self):
        for name, tree in TREES.items():
            lines = [node.lineno for node in ast.walk(tree) if isinstance(node, ast.Lambda)]
            self.assertEqual(len(lines), len(set(lines)), name)


if __name__ == "__main__":
    unittest.main()

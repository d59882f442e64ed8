"""The rules of LANGUAGE.md that can be counted: files, imports, sizes, words."""

import ast
import pathlib
import unittest
import warnings

PACKAGE = pathlib.Path(__file__).resolve().parent.parent / "smallwidth"

BUILTINS = set(
    "len range enumerate zip min max sum abs sorted reversed int str bool list "
    "tuple dict set frozenset isinstance ord repr any all divmod map iter next".split()
)

LAZY = {"range", "zip", "enumerate", "reversed"}
VIEWS = {"items", "keys", "values"}
WALKERS = set("list tuple dict sorted sum any all min max enumerate zip bytes".split())
PRODUCTS = {"product", "combinations", "permutations"}


def files():
    return sorted(PACKAGE.rglob("*.py"))


def text_of(file):
    return file.read_text(encoding="ascii")


def tree_of(file):
    return ast.parse(text_of(file))


def imported(tree):
    return [node for node in ast.walk(tree) if isinstance(node, ast.ImportFrom)]


def called(node):
    """The bare name that a call names, or an empty string."""
    if isinstance(node, ast.Call) and isinstance(node.func, ast.Name):
        return node.func.id
    return ""


def method(node):
    """The method that a call names, or an empty string."""
    if isinstance(node, ast.Call) and isinstance(node.func, ast.Attribute):
        return node.func.attr
    return ""


def is_lazy(node):
    return called(node) in LAZY or method(node) in VIEWS


def is_walked(parent, node, is_range):
    """Whether what stands around a range, zip or view iterates it on the spot."""
    if isinstance(parent, (ast.For, ast.comprehension)):
        return node is parent.iter
    if isinstance(parent, ast.Compare):
        return node in parent.comparators and isinstance(parent.ops[0], (ast.In, ast.NotIn))
    if called(parent) in WALKERS or method(parent) == "join":
        return node in parent.args[:1]
    if called(parent) == "reversed":
        return is_range
    return called(parent) in PRODUCTS | {"len"}


def not_walked(function):
    """The rows of a function with a range, zip or view that is not iterated there."""
    parents = {
        child: node for node in ast.walk(function) for child in ast.iter_child_nodes(node)
    }
    kept = {}
    rows = []
    for node, parent in parents.items():
        if is_lazy(node) and isinstance(parent, ast.Assign):
            kept.update({target.id: called(node) for target in parent.targets})
        elif is_lazy(node) and not is_walked(parent, node, called(node) == "range"):
            rows.append(node.lineno)
    for node, parent in parents.items():
        if isinstance(node, ast.Name) and isinstance(node.ctx, ast.Load) and node.id in kept:
            is_range = kept[node.id] == "range"
            is_item = is_range and isinstance(parent, ast.Subscript) and node is parent.value
            if not is_item and not is_walked(parent, node, is_range):
                rows.append(node.lineno)
    return sorted(rows)


class RulesTest(unittest.TestCase):
    def test_l1_nothing_but_python_files(self):
        for path in sorted(PACKAGE.rglob("*")):
            if "__pycache__" not in path.parts:
                self.assertTrue(path.is_dir() or path.suffix == ".py", path)
        self.assertIn(PACKAGE / "__init__.py", files())

    def test_l2_imports(self):
        library = {"heapq", "math", "itertools", "collections", "__future__"}
        for file in files():
            for node in ast.walk(tree_of(file)):
                self.assertNotIsInstance(node, ast.Import, file)
            for node in imported(tree_of(file)):
                self.assertEqual(node.level, 0, file)
                inside = node.module.startswith("smallwidth.")
                self.assertTrue(inside or node.module in library, file)

    def test_l8_builtins(self):
        import builtins
        barred = set(vars(builtins)) - BUILTINS
        errors = {
            name for name, value in vars(builtins).items()
            if isinstance(value, type) and issubclass(value, BaseException)
        }
        barred -= errors | {"True", "False", "None", "NotImplemented", "super"}
        for file in files():
            for node in ast.walk(tree_of(file)):
                if isinstance(node, ast.Name):
                    self.assertNotIn(node.id, barred, file)

    def test_l10_sizes(self):
        for file in files():
            lines = text_of(file).splitlines()
            self.assertLessEqual(len(lines), 399, file)
            self.assertLessEqual(max(map(len, lines), default=0), 120, file)
            for node in ast.walk(tree_of(file)):
                if isinstance(node, ast.FunctionDef):
                    many = node.end_lineno - node.lineno + 1
                    self.assertLessEqual(many, 40, f"{file}: {node.name}")

    def test_l14_characters(self):
        for file in files():
            wrong = [c for c in text_of(file) if c != "\n" and not " " <= c <= "~"]
            self.assertEqual(wrong, [], file)

    def test_l15_names_are_bound_once_and_not_after_imports(self):
        for file in files():
            tree = tree_of(file)
            names = [alias.name for node in imported(tree) for alias in node.names]
            taken = list(names)
            for node in tree.body:
                if isinstance(node, (ast.FunctionDef, ast.ClassDef)):
                    taken.append(node.name)
                if isinstance(node, ast.Assign):
                    taken.extend(target.id for target in node.targets)
            self.assertEqual(len(taken), len(set(taken)), file)
            for node in ast.walk(tree):
                if isinstance(node, ast.arg):
                    self.assertNotIn(node.arg, names, file)
                if isinstance(node, ast.Name) and isinstance(node.ctx, ast.Store):
                    self.assertNotIn(node.id, names, file)

    def test_l23_ranges_and_views_are_iterated_at_once(self):
        for file in files():
            for node in ast.walk(tree_of(file)):
                if isinstance(node, ast.FunctionDef):
                    self.assertEqual(not_walked(node), [], f"{file}: {node.name}")

    def test_l23_what_is_handed_to_a_function_is_found(self):
        for line, rows in [
            ("use(range(n))", [2]),
            ("use(n, list(range(n)))", []),
            ("return range(n)", [2]),
            ("return [k for k in range(n)]", []),
            ("return use(n.items())", [2]),
            ("return sorted(n.items())", []),
            ("return use(zip(n, n))", [2]),
            ("return dict(zip(n, n))", []),
            ("return list(reversed(range(n)))", []),
            ("return reversed(list(n))", [2]),
            ("kept = range(n)\n    use(kept)", [3]),
            ("kept = range(n)\n    return kept", [3]),
            ("kept = range(n)\n    return [k for k in kept if kept[k]]", []),
            ("kept = n.keys()\n    return list(kept)", []),
        ]:
            function = ast.parse(f"def f(n):\n    {line}\n").body[0]
            self.assertEqual(not_walked(function), rows, line)

    def test_l26_names_of_attributes(self):
        barred = set(
            "items keys values pop update append clear extend insert remove reverse "
            "setdefault sort args encode decode hex fromhex format mro".split()
        )
        for file in files():
            for node in ast.walk(tree_of(file)):
                if isinstance(node, ast.Attribute) and isinstance(node.ctx, ast.Store):
                    self.assertNotIn(node.attr, barred, file)

    def test_l27_no_line_that_python_warns_of(self):
        for file in files():
            with warnings.catch_warnings():
                warnings.simplefilter("error")
                compile(text_of(file), str(file), "exec")


if __name__ == "__main__":
    unittest.main()

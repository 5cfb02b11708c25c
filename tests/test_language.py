"""Rules of LANGUAGE.md and of the interface that can be seen in the text of the package."""

import ast
import builtins
import pathlib
import unittest

FOLDER = pathlib.Path(__file__).resolve().parent.parent / "fusewalks"
FILES = sorted(FOLDER.glob("**/*.py"))
TREES = {path.stem: ast.parse(path.read_text()) for path in FILES}

ALLOWED_CALLS = {
    "all", "any", "enumerate", "int", "isinstance", "iter", "len", "list", "max", "min", "range", "reversed", "sum",
    "tuple",
}
OPERATORS = {
    "__add__", "__call__", "__contains__", "__enter__", "__eq__", "__exit__", "__getitem__", "__init__", "__iter__",
    "__le__", "__len__", "__mul__", "__or__", "__rmul__", "__setitem__", "__str__",
}
INTERFACE = {
    "errors": {
        "WalkError": [], "LimitExceeded": [], "UnknownName": [], "BadGrammar": [], "BadTree": [], "BadStatement": [],
        "BadSchedule": [], "NotReached": [], "UnboundedBatches": [], "DependencyCycle": [],
    },
    "grammar": {"Grammar": ["family_of", "children_of", "kind_size", "kinds_of", "least_size"]},
    "trees": {"Tree": ["__iter__", "__contains__", "__getitem__", "__eq__", "paths", "least"]},
    "program": {
        "Program": ["body", "row", "ignored", "ignore", "ignoring"],
        "Ignoring": ["__enter__", "__exit__"],
    },
    "batches": {"steps": None, "child_batches": None, "unbounded": None, "reached": None},
    "dependencies": {
        "items_of": None, "reasons": None, "dependencies": None, "find_cycle": None, "least_schedule": None,
        "spans": None,
    },
    "traces": {"Trace": ["__iter__", "__len__", "__eq__", "reads", "writes", "without"], "run": None},
    "fusion": {
        "Fusion": [
            "__iter__", "__len__", "__contains__", "__getitem__", "__setitem__", "__call__", "reorder", "arrange",
            "fault", "visits", "listing",
        ],
        "Fault": [],
        "smallest_tree": None,
        "fuse": None,
    },
    "plans": {
        "Plan": [
            "__iter__", "__len__", "__contains__", "__eq__", "__str__", "__add__", "__or__", "__mul__", "__rmul__",
            "__le__", "walks", "apart", "together",
        ],
        "build": None, "perform": None, "fewest_groups": None, "trial": None, "fewest_ignored": None,
    },
}


def nodes(*kinds):
    """Return `(file, node)` for all nodes of these kinds."""
    return [(name, node) for name, tree in TREES.items() for node in ast.walk(tree) if isinstance(node, kinds)]


def called(node):
    return node.func.id if isinstance(node, ast.Call) and isinstance(node.func, ast.Name) else None


class Texts(unittest.TestCase):
    def test_files(self):
        found = [path.name for path in FOLDER.iterdir() if path.name != "__pycache__"]
        self.assertTrue(all(name.endswith(".py") and name == name.lower() for name in found))
        self.assertIn("__init__.py", found)

    def test_sizes_and_characters(self):
        for path in FILES:
            text = path.read_text()
            self.assertLessEqual(len(text.splitlines()), 399, path)
            self.assertTrue(all(mark == "\n" or " " <= mark <= "~" for mark in text), path)
            self.assertTrue(all(len(line) <= 120 for line in text.splitlines()), path)
        for name, node in nodes(ast.FunctionDef):
            self.assertLessEqual(node.end_lineno - node.lineno + 1, 40, (name, node.name))

    def test_strings(self):
        for name, node in nodes(ast.Constant):
            if isinstance(node.value, str):
                self.assertNotIn("%", node.value, name)
                self.assertNotIn("\\", node.value, name)


class Statements(unittest.TestCase):
    def test_what_is_not_used(self):
        wrong = (
            ast.GeneratorExp, ast.Set, ast.SetComp, ast.Lambda, ast.Global, ast.Nonlocal, ast.AsyncFunctionDef,
            ast.Await, ast.AnnAssign, ast.NamedExpr, ast.Div, ast.Delete, ast.Import,
        )
        self.assertEqual(nodes(*wrong), [])

    def test_module_level(self):
        for name, tree in TREES.items():
            for at, node in enumerate(tree.body):
                if isinstance(node, ast.Expr):
                    self.assertEqual((at, type(node.value)), (0, ast.Constant), name)
                elif isinstance(node, ast.Assign):
                    self.assertIsInstance(node.value, ast.Constant, name)
                else:
                    self.assertIsInstance(node, (ast.ImportFrom, ast.FunctionDef, ast.ClassDef), name)

    def test_functions(self):
        for name, node in nodes(ast.FunctionDef):
            arguments = [*node.args.posonlyargs, *node.args.args, *node.args.kwonlyargs]
            self.assertIsNone(node.returns, node.name)
            self.assertTrue(all(argument.annotation is None for argument in arguments), node.name)
            for decorator in node.decorator_list:
                self.assertIn(ast.unparse(decorator), ("property", "staticmethod", "ignored.setter"))
            if node.name.startswith("__"):
                self.assertIn(node.name, OPERATORS, name)

    def test_starred_methods_have_a_plain_first_parameter(self):
        for _, node in nodes(ast.ClassDef):
            for method in node.body:
                if isinstance(method, ast.FunctionDef) and (method.args.vararg or method.args.kwarg):
                    self.assertTrue(method.args.args, method.name)

    def test_calls_of_builtins(self):
        for name, node in nodes(ast.Call):
            word = called(node)
            if word is not None and hasattr(builtins, word):
                self.assertIn(word, ALLOWED_CALLS, name)
            if word in ("min", "max"):
                self.assertIsInstance(node.args[0], ast.ListComp)
                self.assertEqual(called(node.args[0].elt), "int")
            if word in ("any", "all", "sum"):
                self.assertIsInstance(node.args[0], (ast.List, ast.ListComp))

    def test_is(self):
        for name, node in nodes(ast.Compare):
            if any(isinstance(sign, (ast.Is, ast.IsNot)) for sign in node.ops):
                self.assertTrue(all(isinstance(part, ast.Constant) for part in node.comparators), name)

    def test_handlers_and_errors(self):
        own = set(INTERFACE["errors"])
        for _, node in nodes(ast.ExceptHandler):
            self.assertIn(ast.unparse(node.type), own)
        for _, node in nodes(ast.Raise):
            self.assertIn(called(node.exc), own)


class Names(unittest.TestCase):
    def bound(self, tree):
        for node in ast.walk(tree):
            if isinstance(node, ast.Name) and isinstance(node.ctx, ast.Store):
                yield node.id
            elif isinstance(node, ast.arg):
                yield node.arg
            elif isinstance(node, (ast.FunctionDef, ast.ClassDef)):
                yield node.name

    def test_iter_stands_in_iter(self):
        found = [node for _, node in nodes(ast.FunctionDef) if node.name == "__iter__"]
        for node in found:
            self.assertEqual(len(node.body), 1)
            self.assertEqual(called(node.body[0].value), "iter")
        self.assertEqual(len([node for _, node in nodes(ast.Call) if called(node) == "iter"]), len(found))

    def test_no_name_of_a_builtin(self):
        for name, tree in TREES.items():
            for word in self.bound(tree):
                self.assertFalse(word in dir(builtins), (name, word))

    def test_underscore_is_not_read(self):
        for name, node in nodes(ast.Name):
            self.assertFalse(node.id == "_" and isinstance(node.ctx, ast.Load), name)

    def test_imports(self):
        order = {}
        for name, node in nodes(ast.ImportFrom):
            self.assertEqual((node.level, node.module.split(".")[0]), (0, "fusewalks"))
            source = node.module.split(".")[1]
            order.setdefault(name, set()).add(source)
            defined = {part.name for part in TREES[source].body if isinstance(part, (ast.FunctionDef, ast.ClassDef))}
            for alias in node.names:
                self.assertIsNone(alias.asname)
                self.assertIn(alias.name, defined)
        done = set()
        while len(done) < len(order):
            free = {name for name in order if name not in done and not (order[name] & set(order)) - done}
            self.assertTrue(free, "files import from each other")
            done |= free

    def test_no_local_name_is_a_class_or_an_import(self):
        for name, tree in TREES.items():
            taken = {alias.name for node in tree.body if isinstance(node, ast.ImportFrom) for alias in node.names}
            taken |= {node.name for node in tree.body if isinstance(node, ast.ClassDef)}
            for function in [node for node in ast.walk(tree) if isinstance(node, ast.FunctionDef)]:
                for node in ast.walk(function):
                    if isinstance(node, ast.Name) and isinstance(node.ctx, ast.Store):
                        self.assertNotIn(node.id, taken, name)
                    if isinstance(node, ast.arg):
                        self.assertNotIn(node.arg, taken, name)

    def test_methods_are_no_attributes(self):
        attributes = {node.attr for _, node in nodes(ast.Attribute) if isinstance(node.ctx, ast.Store)}
        methods = [part for _, node in nodes(ast.ClassDef) for part in node.body if isinstance(part, ast.FunctionDef)]
        for method in methods:
            if not any("setter" in ast.unparse(part) for part in method.decorator_list) and method.name != "ignored":
                self.assertNotIn(method.name, attributes)

    def test_names_of_generators(self):
        functions = [node for _, node in nodes(ast.FunctionDef)]
        generators = [
            node.name
            for node in functions
            if any(isinstance(part, (ast.Yield, ast.YieldFrom)) for part in ast.walk(node))
        ]
        self.assertEqual(sorted(generators), ["paths", "reasons", "steps", "visits"])
        for word in generators:
            self.assertEqual([node.name for node in functions].count(word), 1)


class Interface(unittest.TestCase):
    def test_everything_is_defined_where_it_is_listed(self):
        for name, parts in INTERFACE.items():
            for part, methods in parts.items():
                wanted = ast.FunctionDef if methods is None else ast.ClassDef
                found = [node for node in TREES[name].body if isinstance(node, wanted) and node.name == part]
                self.assertEqual(len(found), 1, (name, part))
                inside = [node.name for node in found[0].body if isinstance(node, ast.FunctionDef)]
                self.assertEqual([method for method in methods or [] if method not in inside], [])


if __name__ == "__main__":
    unittest.main()

"""The rules of ../shared/LANGUAGE.md that can be checked by going through the files of the package."""

import ast
import builtins
import pathlib
import unittest

PACKAGE = pathlib.Path(__file__).resolve().parent.parent / "betweenlists"

BUILTINS = """
    len range enumerate zip min max sum abs sorted reversed int str bool bytes list tuple dict set frozenset isinstance
    ord repr any all divmod iter next super property staticmethod classmethod object float
    Exception ValueError TypeError KeyError IndexError LookupError ZeroDivisionError ArithmeticError OverflowError
    RuntimeError NotImplementedError AttributeError StopIteration NotImplemented
""".split()

METHODS = """
    append clear copy count endswith extend find get index insert isalnum isalpha isdigit islower isspace isupper items
    join keys ljust lower lstrip partition pop remove replace reverse rfind rjust rpartition rsplit rstrip setdefault
    split splitlines startswith strip update upper values zfill bit_length title capitalize swapcase casefold center
    expandtabs removeprefix removesuffix rindex isascii isdecimal isnumeric istitle isidentifier isprintable translate
    add discard
""".split()

LIBRARY = {
    "heapq": ("heappush", "heappop", "heapify", "heapreplace", "heappushpop"),
    "math": ("gcd", "lcm", "isqrt", "comb", "perm", "factorial"),
    "itertools": ("product", "combinations", "permutations"),
}

DOUBLE = """
    init eq repr str len enter exit call iter lt le gt ge ne add sub mul floordiv mod pow and or xor lshift rshift
    radd rsub rmul rfloordiv rmod rand ror rxor rlshift rrshift iadd isub imul ifloordiv imod ipow iand ior ixor
    ilshift irshift neg pos invert abs bool contains getitem setitem
""".split()

# What an operator may not call, and what it may change: itself only if it is one of these.
MODIFYING = "append clear extend insert pop remove reverse setdefault update add discard sort".split()
CHANGING = ["__setitem__", "__enter__", "__exit__", "__call__", "__init__"]

UNUSED = "register mro elements open input law version_info with_traceback add_note".split()

BARRED = (
    ast.Global, ast.AsyncFunctionDef, ast.AsyncFor, ast.AsyncWith, ast.Await, ast.Div,
)


def files():
    return sorted(PACKAGE.glob("*.py"))


def trees():
    return [(path, ast.parse(path.read_text(encoding="ascii"))) for path in files()]


def defined(tree):
    """The names that are bound at the top of a file by its own statements."""
    names = [node.name for node in tree.body if isinstance(node, (ast.FunctionDef, ast.ClassDef))]
    for node in tree.body:
        if isinstance(node, ast.Assign):
            names += [target.id for target in node.targets]
    return names


def is_operator(node):
    """Whether a method is an operator, or what counts as one: it must change nothing."""
    double = node.name.startswith("__") and node.name not in CHANGING and not node.name.startswith("__i")
    return double or any(ast.unparse(mark) == "property" for mark in node.decorator_list)


def called_by(node):
    """The names of the functions, methods and classes that are called in a function."""
    calls = [call.func for call in ast.walk(node) if isinstance(call, ast.Call)]
    return [func.id if isinstance(func, ast.Name) else func.attr for func in calls]


def run_by_operators():
    """The functions and methods that an operator may run, by the names in their calls."""
    named = {}
    for _, tree in trees():
        for node in ast.walk(tree):
            for item in getattr(node, "body", []) if isinstance(node, (ast.Module, ast.ClassDef)) else []:
                if isinstance(item, ast.FunctionDef):
                    name = node.name if item.name == "__init__" else item.name
                    named.setdefault(name, []).append(item)
    open_ones = [node for nodes in named.values() for node in nodes if is_operator(node)]
    found = []
    while open_ones:
        node = open_ones.pop()
        if node not in found:
            found.append(node)
            open_ones += [item for name in called_by(node) for item in named.get(name, [])]
    return found


class SourceTest(unittest.TestCase):
    def test_only_files_of_the_language(self):
        found = [path for path in PACKAGE.iterdir() if path.name != "__pycache__"]
        self.assertEqual(sorted(found), files())
        self.assertIn(PACKAGE / "__init__.py", found)

    def test_size_and_characters(self):
        for path in files():
            text = path.read_text(encoding="ascii")
            self.assertTrue(all(letter == "\n" or " " <= letter <= "~" for letter in text), path)
            lines = text.split("\n")
            self.assertLess(len(lines), 400, path)
            self.assertLessEqual(max(len(line) for line in lines), 120, path)

    def test_functions_are_short(self):
        for path, tree in trees():
            for node in ast.walk(tree):
                if isinstance(node, ast.FunctionDef):
                    first = min([node.lineno] + [mark.lineno for mark in node.decorator_list])
                    self.assertLessEqual(node.end_lineno - first + 1, 40, (path, node.name))

    def test_imports(self):
        homes = {"betweenlists." + path.stem: defined(tree) for path, tree in trees()}
        for path, tree in trees():
            for node in ast.walk(tree):
                self.assertNotIsInstance(node, ast.Import, path)
                if isinstance(node, ast.ImportFrom):
                    self.assertIn(node, tree.body)
                    known = LIBRARY.get(node.module) or homes[node.module]
                    for name in node.names:
                        self.assertIn(name.name, known, path)
                        self.assertIsNone(name.asname)

    def test_no_circle_of_imports(self):
        needs = {}
        for path, tree in trees():
            froms = [node.module for node in tree.body if isinstance(node, ast.ImportFrom)]
            needs["betweenlists." + path.stem] = [name for name in froms if name not in LIBRARY]
        while needs:
            free = [name for name, others in needs.items() if not any(other in needs for other in others)]
            self.assertTrue(free, needs)
            needs = {name: others for name, others in needs.items() if name not in free}

    def test_one_binding_for_each_name(self):
        for path, tree in trees():
            names = defined(tree)
            for node in tree.body:
                if isinstance(node, ast.ImportFrom):
                    names += [name.name for name in node.names]
            self.assertEqual(len(set(names)), len(names), path)

    def test_names(self):
        for path, tree in trees():
            top = [node.name for node in tree.body if isinstance(node, ast.ClassDef)]
            for node in tree.body:
                if isinstance(node, ast.ImportFrom):
                    top += [name.name for name in node.names]
            for node in ast.walk(tree):
                if isinstance(node, ast.Name) and isinstance(node.ctx, ast.Load) and hasattr(builtins, node.id):
                    self.assertIn(node.id, BUILTINS, (path, node.lineno))
                if isinstance(node, ast.Name) and isinstance(node.ctx, ast.Store) or isinstance(node, ast.arg):
                    name = node.id if isinstance(node, ast.Name) else node.arg
                    self.assertFalse(hasattr(builtins, name) or name in UNUSED or name in top, (path, node.lineno))

    def test_methods(self):
        own = [node.name for _, tree in trees() for node in ast.walk(tree) if isinstance(node, ast.FunctionDef)]
        for path, tree in trees():
            for node in ast.walk(tree):
                if isinstance(node, ast.Call) and isinstance(node.func, ast.Attribute):
                    self.assertIn(node.func.attr, METHODS + own, (path, node.lineno))

    def test_double_underscores(self):
        for path, tree in trees():
            for node in ast.walk(tree):
                if isinstance(node, ast.FunctionDef) and node.name.startswith("__"):
                    self.assertIn(node.name.strip("_"), DOUBLE, (path, node.lineno))

    def test_operators_change_nothing(self):
        found = run_by_operators()
        self.assertGreater(len(found), 30)
        for node in found:
            parameters = [arg.arg for arg in node.args.args]
            for item in ast.walk(node):
                self.assertNotIsInstance(item, (ast.AugAssign, ast.Delete), node.name)
                if isinstance(item, (ast.Attribute, ast.Subscript)) and isinstance(item.ctx, ast.Store):
                    self.assertEqual(node.name, "__init__", (node.name, item.lineno))
                if isinstance(item, ast.Call) and isinstance(item.func, ast.Attribute):
                    self.assertNotIn(item.func.attr, MODIFYING, (node.name, item.lineno))
                if isinstance(item, ast.Call) and isinstance(item.func, ast.Name):
                    self.assertNotIn(item.func.id, parameters, (node.name, item.lineno))

    def test_equality_and_length_assign_nothing(self):
        for path, tree in trees():
            for node in ast.walk(tree):
                if isinstance(node, ast.FunctionDef) and node.name in ("__eq__", "__len__"):
                    for item in ast.walk(node):
                        self.assertNotIsInstance(item, (ast.Assign, ast.AugAssign), (path, node.lineno))
                    last = node.body[-1]
                    self.assertIsInstance(last, ast.Return)
                    if node.name == "__len__":
                        self.assertTrue(ast.unparse(last.value).startswith("len("), (path, node.lineno))

    def test_items_without_iteration(self):
        for path, tree in trees():
            for node in ast.walk(tree):
                if isinstance(node, ast.ClassDef):
                    names = [item.name for item in node.body if isinstance(item, ast.FunctionDef)]
                    self.assertEqual("__getitem__" in names, "__iter__" in names, (path, node.name))
                    self.assertNotIn("keys", names)

    def test_calls_over_lists(self):
        # Where classes have operators, these take a list and not a generator; lists are not sorted in place.
        for path, tree in trees():
            for node in ast.walk(tree):
                self.assertNotIsInstance(node, (ast.GeneratorExp, ast.Yield, ast.YieldFrom), path)
                if isinstance(node, ast.Call) and isinstance(node.func, ast.Attribute):
                    self.assertNotEqual(node.func.attr, "sort", (path, node.lineno))

    def test_no_name_is_a_method_and_an_attribute(self):
        nodes = [node for _, tree in trees() for node in ast.walk(tree)]
        methods = {node.name for node in nodes if isinstance(node, ast.FunctionDef) and not node.decorator_list}
        attributes = {node.name for node in nodes if isinstance(node, ast.FunctionDef) and node.decorator_list}
        for node in nodes:
            if isinstance(node, ast.Attribute) and isinstance(node.ctx, ast.Store):
                attributes.add(node.attr)
        self.assertEqual(methods & attributes, set())

    def test_statements_and_values(self):
        for path, tree in trees():
            for node in ast.walk(tree):
                self.assertNotIsInstance(node, BARRED, (path, getattr(node, "lineno", 0)))
                if isinstance(node, ast.Constant):
                    self.assertNotIsInstance(node.value, (float, complex), (path, node.lineno))
                    self.assertFalse(isinstance(node.value, str) and "%" in node.value, (path, node.lineno))

    def test_decorators(self):
        for path, tree in trees():
            for node in ast.walk(tree):
                if isinstance(node, ast.ClassDef):
                    self.assertEqual(node.decorator_list, [], (path, node.lineno))
                if isinstance(node, ast.FunctionDef):
                    marks = [ast.unparse(mark) for mark in node.decorator_list]
                    right = ["property", "staticmethod", "classmethod", node.name + ".setter"]
                    self.assertTrue(all(mark in right for mark in marks) and len(marks) < 2, (path, node.lineno))

    def test_sets_are_not_kept(self):
        for path, tree in trees():
            held = []
            for node in ast.walk(tree):
                if isinstance(node, ast.Call) and isinstance(node.func, ast.Name) and node.func.id in ("sorted", "len"):
                    held += node.args
                if isinstance(node, ast.Compare):
                    held += node.comparators
            for node in ast.walk(tree):
                call = isinstance(node, ast.Call) and ast.unparse(node.func) in ("set", "frozenset")
                if call or isinstance(node, (ast.Set, ast.SetComp)):
                    self.assertIn(node, held, (path, node.lineno))

    def test_only_own_errors_are_caught(self):
        own = defined(ast.parse((PACKAGE / "errors.py").read_text(encoding="ascii")))
        for path, tree in trees():
            for node in ast.walk(tree):
                if isinstance(node, ast.ExceptHandler):
                    caught = node.type.elts if isinstance(node.type, ast.Tuple) else [node.type]
                    self.assertTrue(all(error.id in own for error in caught), (path, node.lineno))
                if isinstance(node, ast.Raise):
                    self.assertTrue(isinstance(node.exc, ast.Call) and node.exc.func.id in own + ["TypeError"], path)

    def test_ends_of_blocks_only_keep_values(self):
        for path, tree in trees():
            for node in ast.walk(tree):
                self.assertFalse(isinstance(node, ast.Try) and node.finalbody, path)
                if isinstance(node, ast.FunctionDef) and node.name == "__exit__":
                    for row in node.body:
                        self.assertTrue(isinstance(row, ast.Assign) and isinstance(row.value, ast.Constant), path)

"""The rules of the language that a reader of the syntax can check; the package stays narrower than they allow."""

import ast
import builtins
import re
import unittest
import warnings
from pathlib import Path

ROOT = Path(__file__).resolve().parent.parent / "mostkept"
FILES = sorted(ROOT.rglob("*.py"))
LIBRARY = {"math": {"gcd", "lcm", "isqrt", "comb"}, "heapq": {"heappush", "heappop", "heapify"},
           "itertools": {"product", "combinations", "permutations"}}
BUILTINS = set("""len range enumerate zip min max sum abs sorted reversed int str bool list tuple dict set isinstance ord
    repr any all divmod ValueError TypeError KeyError IndexError LookupError ZeroDivisionError ArithmeticError
    OverflowError RuntimeError NotImplementedError property staticmethod classmethod""".split())
METHODS = set("""append clear copy count endswith extend find get index insert isalnum isalpha isdigit islower isspace
    isupper items join ljust lower lstrip partition pop remove replace reverse rfind rjust rpartition rsplit rstrip
    setdefault split splitlines startswith strip update upper values zfill bit_length""".split())
SIGNS = set("""__init__ __eq__ __str__ __len__ __enter__ __exit__ __iter__ __contains__ __getitem__ __or__
    __bool__""".split())
BARRED_NODES = (ast.Import, ast.Global, ast.Nonlocal, ast.AsyncFunctionDef, ast.AsyncFor, ast.AsyncWith, ast.Await,
                ast.Div, ast.Set, ast.AnnAssign, ast.NamedExpr, ast.GeneratorExp, ast.Match)
BARRED_NAMES = set("""register mro elements open input law version_info with_traceback add_note attrgetter breakpoint
    builtins compile copyright credits delattr dir eval exec exit gc getattr globals hasattr help id importlib license
    locals methodcaller os quit setattr super type vars sys args""".split())
BARRED_WORDS = re.compile(r"\b(type|typing|typing_extensions|enum|Enum|IntEnum|StrEnum|Flag|IntFlag|Generic|Protocol|ABC"
                          r"|ABCMeta|namedtuple|NamedTuple|TypedDict|TYPE_CHECKING|abstractmethod)\b"
                          r"|dataclass|overload|contextmanager|_wall|_WallAttr|Meta|metaclass=|\(type\)")


def trees():
    return [(path, ast.parse(path.read_text(encoding="ascii"))) for path in FILES]


def nodes(kind):
    return [(f"{path.relative_to(ROOT)}:{node.lineno}", node) for path, tree in trees() for node in ast.walk(tree)
            if isinstance(node, kind)]


def functions():
    return nodes(ast.FunctionDef)


def parameters(function):
    spec = function.args
    rest = [one for one in (spec.vararg, spec.kwarg) if one is not None]
    return [*spec.posonlyargs, *spec.args, *spec.kwonlyargs, *rest]


def is_generator(function):
    return any(isinstance(node, (ast.Yield, ast.YieldFrom)) for node in ast.walk(function))


class LanguageTest(unittest.TestCase):

    def test_files(self):
        self.assertGreater(len(FILES), 0)
        self.assertLessEqual(len(FILES), 100)
        for path in ROOT.rglob("*"):
            if path.name != "__pycache__" and path.parent.name != "__pycache__":
                self.assertRegex(path.name, r"^[a-z0-9_]+(\.py)?$")
            if path.is_dir() and path.name != "__pycache__":
                self.assertTrue((path / "__init__.py").exists(), path)
                self.assertFalse(path.with_suffix(".py").exists(), path)

    def test_lines_and_characters(self):
        for path in FILES:
            text = path.read_text(encoding="ascii")
            self.assertRegex(text, r"\A[ -~\n]*\n\Z", path)
            self.assertLessEqual(len(text.splitlines()), 399, path)
            self.assertLessEqual(max(len(line) for line in text.splitlines()), 120, path)
            self.assertIsNone(BARRED_WORDS.search(text), path)
            with warnings.catch_warnings():
                warnings.simplefilter("error")
                compile(text, str(path), "exec")

    def test_functions_are_short(self):
        for place, node in functions():
            self.assertLessEqual(node.end_lineno - node.lineno + 1, 40, place)

    def test_imports(self):
        for path, tree in trees():
            begun = False
            for node in tree.body:
                if isinstance(node, ast.ImportFrom):
                    self.assertFalse(begun, path)
                begun = begun or not isinstance(node, ast.ImportFrom) and not is_text(node)
        for place, node in nodes(ast.ImportFrom):
            self.assertEqual(node.level, 0, place)
            for name in node.names:
                self.assertIsNone(name.asname, place)
                if not node.module.startswith("mostkept."):
                    self.assertIn(name.name, LIBRARY[node.module], place)
                else:
                    source = ROOT.parent.joinpath(*node.module.split(".")).with_suffix(".py")
                    self.assertIn(name.name, bound(ast.parse(source.read_text())), place)

    def test_module_level(self):
        for path, tree in trees():
            for node in tree.body:
                self.assertIsInstance(node, (ast.ImportFrom, ast.FunctionDef, ast.ClassDef, ast.Assign, ast.Expr), path)
                self.assertTrue(not isinstance(node, ast.Expr) or is_text(node), path)
            names = bound(tree)
            self.assertEqual(len(names), len(set(names)), path)

    def test_barred_statements_and_expressions(self):
        for place, node in nodes(BARRED_NODES):
            self.fail(f"{place} has {node.__class__.__name__}")
        for place, node in nodes(ast.Compare):
            for sign, right in zip(node.ops, node.comparators):
                if isinstance(sign, (ast.Is, ast.IsNot)):
                    self.assertIsInstance(right, ast.Constant, place)
        for place, node in nodes(ast.Constant):
            self.assertNotIsInstance(node.value, (float, complex, bytes), place)
            self.assertNotIn("%", str(node.value), place)
        for place, node in nodes(ast.BinOp):
            if isinstance(node.op, ast.Pow):
                self.assertIsInstance(node.right, ast.Constant, place)
                self.assertNotEqual(getattr(node.left, "value", None), 2, place)

    def test_decorators_and_annotations(self):
        for place, node in functions():
            self.assertLessEqual(len(node.decorator_list), 1, place)
            for one in node.decorator_list:
                self.assertIn(getattr(one, "id", None), ("property", "staticmethod", "classmethod"), place)
            self.assertTrue(all(one.annotation is None for one in [*parameters(node)]) and node.returns is None, place)

    def test_names(self):
        for place, node in nodes((ast.Name, ast.arg, ast.FunctionDef, ast.ClassDef, ast.Attribute)):
            name = (getattr(node, "id", None) or getattr(node, "arg", None) or getattr(node, "name", None)
                    or getattr(node, "attr", None))
            self.assertRegex(name, r"^_?[A-Za-z][A-Za-z0-9_]*$|^_$|^__[a-z]+__$", place)
            if name.startswith("__"):
                self.assertIn(name, SIGNS, place)
            self.assertNotIn(name, BARRED_NAMES, place)

    def test_builtins(self):
        for place, node in nodes(ast.Name):
            # The examples that other tests run leave a _ among the builtins.
            if node.id in vars(builtins) and node.id != "_":
                self.assertIn(node.id, BUILTINS, place)
                self.assertNotEqual(node.id, "reversed", place)
                self.assertIsInstance(node.ctx, ast.Load, place)
        for place, node in [*functions(), *nodes(ast.ClassDef)]:
            self.assertFalse(node.name in vars(builtins), place)
        for place, node in nodes(ast.arg):
            self.assertFalse(node.arg in vars(builtins) and node.arg != "_", place)

    def test_no_name_hides_an_import_or_a_class(self):
        for path, tree in trees():
            taken = [name.name for node in tree.body if isinstance(node, ast.ImportFrom) for name in node.names]
            taken += [node.name for node in tree.body if isinstance(node, ast.ClassDef)]
            for node in ast.walk(tree):
                if isinstance(node, ast.arg):
                    self.assertNotIn(node.arg, taken, path)
                if isinstance(node, ast.Name) and isinstance(node.ctx, ast.Store):
                    self.assertNotIn(node.id, taken, path)

    def test_methods_of_builtin_values(self):
        own = {node.name for _, node in functions()}
        for place, node in nodes(ast.Call):
            if isinstance(node.func, ast.Attribute):
                self.assertIn(node.func.attr, METHODS | own, place)

    def test_generators_have_names_of_their_own(self):
        names = [node.name for _, node in functions()]
        for place, node in functions():
            if is_generator(node):
                self.assertEqual(names.count(node.name), 1, place)
                self.assertNotIn(node.name, METHODS, place)

    def test_classes_that_are_read_by_index_say_how_they_are_iterated(self):
        for place, node in nodes(ast.ClassDef):
            names = [one.name for one in node.body if isinstance(one, ast.FunctionDef)]
            self.assertEqual(len(names), len(set(names)), place)
            if "__getitem__" in names:
                self.assertIn("__iter__", names, place)

    def test_what_is_returned_for_str_and_len(self):
        for place, node in functions():
            found = [one.value for one in ast.walk(node) if isinstance(one, ast.Return)]
            if node.name == "__str__":
                self.assertIsInstance(node.body[-1], ast.Return, place)
                for one in found:
                    plain = isinstance(one, ast.Call) and getattr(one.func, "id", None) == "str"
                    self.assertTrue(plain or isinstance(one, (ast.JoinedStr, ast.Constant)), place)
            if node.name == "__len__":
                self.assertTrue(all(isinstance(one, ast.Call) and one.func.id == "len" for one in found), place)
            if node.name == "__init__":
                self.assertEqual(found, [], place)

    def test_handlers_and_errors(self):
        for place, node in nodes(ast.ExceptHandler):
            self.assertIsNotNone(node.type, place)
        for place, node in nodes(ast.Raise):
            self.assertTrue(node.exc is None or isinstance(node.exc, ast.Call) and isinstance(node.exc.func, ast.Name), place)

    def test_only_own_errors_are_caught(self):
        own = {node.name for path, tree in trees() if path.name == "errors.py" for node in tree.body if isinstance(node, ast.ClassDef)}
        for place, node in nodes(ast.ExceptHandler):
            names = node.type.elts if isinstance(node.type, ast.Tuple) else [node.type]
            self.assertTrue(all(isinstance(one, ast.Name) and one.id in own for one in names), place)
            self.assertIsNone(node.name, place)

    def test_what_stands_at_the_end_of_a_block(self):
        for place, node in functions():
            if node.name == "__exit__":
                for one in node.body:
                    self.assertTrue(isinstance(one, ast.Assign) and isinstance(one.value, ast.Attribute), place)
                    self.assertTrue(all(isinstance(target, ast.Attribute) for target in one.targets), place)
            if is_generator(node):
                self.assertFalse(any(isinstance(one, (ast.Try, ast.With)) for one in ast.walk(node)), place)

    def test_views_and_sets_are_used_on_the_spot(self):
        for place, node in nodes(ast.Assign):
            called = getattr(getattr(node.value, "func", None), "id", None)
            self.assertNotIn(called, ("zip", "enumerate", "reversed", "range", "set"), place)
            self.assertNotIsInstance(node.value, ast.SetComp, place)

    def test_what_is_iterated_at_once(self):
        lazy = {"zip", "enumerate", "reversed", "range", "items", "values"}
        generators = {node.name for _, node in functions() if is_generator(node)}
        for path, tree in trees():
            for node, parent in with_parents(tree):
                name = called(node)
                if name in lazy | generators:
                    self.assertTrue(iterates(parent, node), f"{path}:{node.lineno} keeps or passes on {name}")
                if name in generators:
                    plain = (ast.Name, ast.Attribute, ast.Constant, ast.Tuple)
                    self.assertTrue(all(isinstance(one, plain) for one in node.args), f"{path}:{node.lineno} {name}")

    def test_stars_in_calls(self):
        for place, node in nodes(ast.Call):
            for one in node.args:
                if isinstance(one, ast.Starred):
                    self.assertIsInstance(one.value, ast.Name, place)
            for one in node.keywords:
                self.assertTrue(one.arg is not None or isinstance(one.value, ast.Name), place)


def with_parents(tree):
    return [(node, parent) for parent in ast.walk(tree) for node in ast.iter_child_nodes(parent)]


def called(node):
    if not isinstance(node, ast.Call):
        return None
    return getattr(node.func, "id", None) or getattr(node.func, "attr", None)


def iterates(parent, node):
    """Return whether the parent iterates over the node on the spot."""
    if isinstance(parent, (ast.For, ast.comprehension)):
        return parent.iter is node
    if isinstance(parent, ast.Call):
        return getattr(parent.func, "id", None) in {"list", "tuple", "dict", "sorted", "sum", "min", "max", "any", "all",
                                                    "enumerate", "zip"}
    return isinstance(parent, ast.YieldFrom)


def is_text(node):
    return isinstance(node, ast.Expr) and isinstance(node.value, ast.Constant) and isinstance(node.value.value, str)


def bound(tree):
    """Return the names that are bound at module level."""
    names = []
    for node in tree.body:
        if isinstance(node, ast.ImportFrom):
            names += [name.name for name in node.names]
        elif isinstance(node, (ast.FunctionDef, ast.ClassDef)):
            names.append(node.name)
        elif isinstance(node, ast.Assign):
            names += [target.id for target in node.targets]
    return names


if __name__ == "__main__":
    unittest.main()

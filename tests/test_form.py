"""The rules of ../shared/LANGUAGE.md that can be seen in the text of the package; not all of them can."""

import ast
import builtins
import pathlib
import re
import unittest
import warnings

PACKAGE = pathlib.Path(__file__).resolve().parent.parent / "leastterms"
FILES = sorted(path for path in PACKAGE.rglob("*") if "__pycache__" not in path.parts and path.is_file())

BUILTINS = set(
    "len range enumerate zip min max sum abs sorted reversed int str bool bytes list tuple dict set frozenset"
    " isinstance ord repr any all divmod Exception ValueError TypeError KeyError IndexError LookupError"
    " ZeroDivisionError ArithmeticError OverflowError RuntimeError NotImplementedError AttributeError"
    " StopIteration".split()
)
BARRED_WORDS = (
    "type typing typing_extensions enum Enum IntEnum StrEnum Flag IntFlag Generic Protocol ABC ABCMeta namedtuple"
    " NamedTuple TypedDict TYPE_CHECKING abstractmethod"
).split()
BARRED_NAMES = set(
    "register mro elements open input version_info with_traceback add_note attrgetter breakpoint builtins compile"
    " copyright credits delattr dir eval exec exit gc getattr globals hasattr help id importlib license locals"
    " methodcaller os quit setattr super type vars sys".split()
)
METHODS = set(
    "append clear copy count endswith extend find get index insert isalnum isalpha isdigit islower isspace isupper"
    " items join keys ljust lower lstrip partition pop remove replace reverse rfind rjust rpartition rsplit rstrip"
    " setdefault split splitlines startswith strip update upper values zfill bit_length sort add discard".split()
)
BARRED_NODES = (
    ast.With, ast.Match, ast.Global, ast.Nonlocal, ast.Yield, ast.YieldFrom, ast.AsyncFunctionDef, ast.AsyncFor,
    ast.AsyncWith, ast.Await, ast.GeneratorExp, ast.NamedExpr, ast.Div, ast.Import,
)
LOOPS = (ast.For, ast.While)
ITERATED = {"zip", "enumerate", "reversed", "range", "items", "keys", "values"}
TAKERS = {"list", "tuple", "dict", "sorted", "sum", "any", "all", "enumerate", "zip", "min", "max"}


def nodes(path):
    return list(ast.walk(ast.parse(path.read_text())))


def bound_names(path):
    for node in nodes(path):
        if isinstance(node, (ast.FunctionDef, ast.ClassDef)):
            yield node.name
        elif isinstance(node, ast.arg):
            yield node.arg
        elif isinstance(node, ast.Name) and isinstance(node.ctx, ast.Store):
            yield node.id
        elif isinstance(node, ast.alias):
            yield node.asname or node.name


def with_parents(path):
    """Each node with the one in which it stands."""
    return [(child, node) for node in nodes(path) for child in ast.iter_child_nodes(node)]


def called_name(node):
    """The name of what is called, None where nothing is."""
    if not isinstance(node, ast.Call):
        return None
    return node.func.id if isinstance(node.func, ast.Name) else getattr(node.func, "attr", None)


def own_imports(path):
    return [node.module for node in nodes(path) if isinstance(node, ast.ImportFrom)]


class Form(unittest.TestCase):
    def test_files_and_characters(self):
        self.assertTrue(FILES)
        for path in FILES:
            self.assertRegex(path.name, r"^(__init__|__main__|[a-z][a-z0-9_]*)\.py$")
            data = path.read_bytes()
            self.assertTrue(all(byte == 10 or 32 <= byte <= 126 for byte in data), path)

    def test_sizes(self):
        for path in FILES:
            lines = path.read_text().splitlines()
            self.assertLessEqual(len(lines), 400, path)
            self.assertLessEqual(max(map(len, lines), default=0), 120, path)
            for node in nodes(path):
                if isinstance(node, ast.FunctionDef):
                    self.assertLessEqual(node.end_lineno - node.lineno + 1, 40, node.name)

    def test_no_warning(self):
        for path in FILES:
            with warnings.catch_warnings():
                warnings.simplefilter("error")
                compile(path.read_text(), str(path), "exec")

    def test_module_level(self):
        for path in FILES:
            for at, node in enumerate(ast.parse(path.read_text()).body):
                docstring = at == 0 and isinstance(node, ast.Expr) and isinstance(node.value, ast.Constant)
                allowed = (ast.ImportFrom, ast.FunctionDef, ast.ClassDef, ast.Assign)
                self.assertTrue(docstring or isinstance(node, allowed), (path, node.lineno))

    def test_imports(self):
        for path in FILES:
            for node in nodes(path):
                if isinstance(node, ast.ImportFrom):
                    self.assertEqual(node.level, 0, path)
                    self.assertTrue(node.module.startswith("leastterms."), (path, node.module))
                    self.assertNotIn("*", [name.name for name in node.names], path)

    def test_no_ring_of_imports(self):
        ahead = {f"leastterms.{path.stem}": own_imports(path) for path in FILES}
        done = []
        while ahead:
            free = [name for name, wanted in ahead.items() if all(other in done for other in wanted)]
            self.assertTrue(free, f"a ring among {sorted(ahead)}")
            for name in free:
                done.append(name)
                del ahead[name]

    def test_statements_and_expressions(self):
        for path in FILES:
            for node in nodes(path):
                self.assertNotIsInstance(node, BARRED_NODES, (path, getattr(node, "lineno", 0)))
                if isinstance(node, LOOPS):
                    self.assertEqual(node.orelse, [], (path, node.lineno))
                if isinstance(node, (ast.FunctionDef, ast.ClassDef)):
                    self.assertEqual(node.decorator_list, [], (path, node.name))
                if isinstance(node, ast.arguments):
                    self.assertEqual((node.vararg, node.kwarg, node.posonlyargs), (None, None, []), path)
                if isinstance(node, ast.Starred):
                    self.assertIsInstance(node.ctx, ast.Store, path)
                if isinstance(node, ast.Constant):
                    self.assertNotIsInstance(node.value, (float, complex), path)
                    self.assertFalse(isinstance(node.value, str) and "%" in node.value, (path, node.lineno))
                if isinstance(node, ast.BinOp) and isinstance(node.op, ast.Pow):
                    self.assertIsInstance(node.right, ast.Constant, (path, node.lineno))
                if isinstance(node, ast.Compare):
                    self.check_is(path, node)

    def check_is(self, path, node):
        for operator, right in zip(node.ops, node.comparators):
            if isinstance(operator, (ast.Is, ast.IsNot)):
                plain = isinstance(right, ast.Constant) and (right.value is None or isinstance(right.value, bool))
                self.assertTrue(plain, (path, node.lineno))

    def test_names(self):
        for path in FILES:
            for name in bound_names(path):
                if name.startswith("__") and name in ("__init__", "__eq__", "__repr__", "__str__", "__len__"):
                    continue
                self.assertRegex(name, r"^[A-Za-z][A-Za-z0-9_]*$", path)
                self.assertNotIn(name, BARRED_NAMES, path)
                self.assertFalse(hasattr(builtins, name), (path, name))

    def test_builtins(self):
        for path in FILES:
            for node in nodes(path):
                if isinstance(node, ast.Name) and hasattr(builtins, node.id):
                    self.assertIn(node.id, BUILTINS, (path, node.lineno))

    def test_methods_of_builtin_values(self):
        own = {node.name for path in FILES for node in nodes(path) if isinstance(node, ast.FunctionDef)}
        for path in FILES:
            for node in nodes(path):
                if isinstance(node, ast.Call) and isinstance(node.func, ast.Attribute):
                    self.assertIn(node.func.attr, METHODS | own, (path, node.lineno))

    def test_local_names_are_no_imports_and_no_classes(self):
        for path in FILES:
            body = ast.parse(path.read_text()).body
            taken = {node.name for node in body if isinstance(node, ast.ClassDef)}
            taken |= {name.name for node in body if isinstance(node, ast.ImportFrom) for name in node.names}
            for node in nodes(path):
                if isinstance(node, ast.arg):
                    self.assertNotIn(node.arg, taken, (path, node.lineno))
                if isinstance(node, ast.Name) and isinstance(node.ctx, ast.Store):
                    self.assertNotIn(node.id, taken, (path, node.lineno))

    def test_each_import_is_used_and_names_its_file(self):
        defined = {}
        for path in FILES:
            for node in ast.parse(path.read_text()).body:
                names = [node.name] if isinstance(node, (ast.FunctionDef, ast.ClassDef)) else []
                names += [target.id for target in node.targets] if isinstance(node, ast.Assign) else []
                self.assertFalse(set(names) & defined.setdefault(path.stem, set()), (path, names))
                defined[path.stem] |= set(names)
        for path in FILES:
            read = {node.id for node in nodes(path) if isinstance(node, ast.Name)}
            for node in nodes(path):
                if isinstance(node, ast.ImportFrom):
                    for name in node.names:
                        self.assertIsNone(name.asname, path)
                        self.assertIn(name.name, defined[node.module.split(".")[1]], path)
                        self.assertIn(name.name, read, path)

    def test_values_at_module_level(self):
        plain = (ast.Constant, ast.Tuple, ast.List, ast.Dict, ast.Name, ast.Load)
        for path in FILES:
            for node in ast.parse(path.read_text()).body:
                if isinstance(node, ast.Assign):
                    for inner in ast.walk(node.value):
                        self.assertIsInstance(inner, plain, (path, node.lineno))

    def test_iterated_at_once(self):
        for path in FILES:
            for node, parent in with_parents(path):
                if called_name(node) in ITERATED:
                    looped = isinstance(parent, (ast.For, ast.comprehension)) and parent.iter is node
                    taken = called_name(parent) in TAKERS and node in parent.args
                    self.assertTrue(looped or taken, (path, node.lineno))

    def test_sets(self):
        for path in FILES:
            for node, parent in with_parents(path):
                if isinstance(node, (ast.Set, ast.SetComp)) or called_name(node) in ("set", "frozenset"):
                    there = called_name(parent) in ("sorted", "len") or isinstance(parent, ast.Compare)
                    self.assertTrue(there, (path, node.lineno))

    def test_refusals_are_made_on_the_spot_with_a_text(self):
        for path in FILES:
            for node in nodes(path):
                if isinstance(node, ast.Raise):
                    self.assertRegex(called_name(node.exc) or "", r"^No[A-Z][a-z]+$", (path, node.lineno))
                    self.assertEqual(len(node.exc.args), 1, (path, node.lineno))
                    self.assertIsInstance(node.exc.args[0], (ast.Constant, ast.JoinedStr), (path, node.lineno))

    def test_no_name_is_a_method_and_an_attribute(self):
        every = [node for path in FILES for node in nodes(path)]
        classes = [node for node in every if isinstance(node, ast.ClassDef)]
        methods = {inner.name for node in classes for inner in node.body if isinstance(inner, ast.FunctionDef)}
        attributes = [node for node in every if isinstance(node, ast.Attribute)]
        assigned = {node.attr for node in attributes if isinstance(node.ctx, ast.Store)}
        self.assertEqual(methods & assigned, set())
        self.assertEqual(assigned & METHODS, set())
        for node in attributes:
            self.assertIn(node.attr, methods | assigned | METHODS, node.lineno)

    def test_barred_words(self):
        for path in FILES:
            text = path.read_text()
            for word in BARRED_WORDS:
                self.assertIsNone(re.search(rf"\b{word}\b", text), (path, word))
            for part in ("dataclass", "overload", "contextmanager"):
                self.assertNotIn(part, text, path)


if __name__ == "__main__":
    unittest.main()

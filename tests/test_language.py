"""The package keeps to the rules of LANGUAGE.md that can be seen in its text."""

import ast
import builtins
import io
import pathlib
import re
import tokenize
import unittest
import warnings

PACKAGE = pathlib.Path(__file__).resolve().parent.parent / "linecourt"
BUILTINS = set(
    "len range enumerate zip min max sum abs sorted reversed int str bool list tuple dict set isinstance ord repr any "
    "all divmod iter next super Exception ValueError TypeError KeyError IndexError LookupError ZeroDivisionError "
    "ArithmeticError OverflowError RuntimeError NotImplementedError".split()
)
METHODS = set(
    "append clear copy count endswith extend find get index insert isalnum isalpha isdigit islower isspace isupper items "
    "join keys ljust lower lstrip partition pop remove replace reverse rfind rjust rpartition rsplit rstrip setdefault "
    "split splitlines startswith strip update upper values zfill bit_length add discard __init__".split()
)
BARRED_WORDS = re.compile(
    r"\b(type|typing|typing_extensions|enum|Enum|IntEnum|StrEnum|Flag|IntFlag|Generic|Protocol|ABC|ABCMeta|namedtuple|"
    r"NamedTuple|TypedDict|TYPE_CHECKING|abstractmethod)\b|dataclass|overload|contextmanager"
)
BARRED_NAMES = set(
    "register mro elements open input version_info with_traceback add_note attrgetter breakpoint builtins compile "
    "copyright credits delattr dir eval exec exit gc getattr globals hasattr help id importlib license locals "
    "methodcaller os quit setattr type vars sys format format_map".split()
)
BARRED_ATTRIBUTES = set(
    "items keys values pop update append clear extend insert remove reverse setdefault sort args encode decode hex "
    "fromhex format".split()
)
BARRED_NODES = (
    ast.Global, ast.AsyncFunctionDef, ast.AsyncFor, ast.AsyncWith, ast.Await, ast.Import, ast.Div, ast.Lambda,
    ast.Yield, ast.YieldFrom, ast.NamedExpr, ast.With, ast.Match, ast.Delete, ast.Nonlocal, ast.AnnAssign,
)
ON_THE_SPOT = {"zip", "enumerate", "reversed", "range"}
TAKERS = {"list", "tuple", "dict", "sorted", "sum", "any", "all", "enumerate", "zip", "min", "max"}
SET_TAKERS = {"sorted", "len"}
ASKED_CLASSES = {"int", "str", "bool", "bytes", "list", "tuple", "dict"}


def files():
    return sorted(path for path in PACKAGE.rglob("*") if "__pycache__" not in path.parts and path.is_file())


def parsed(path):
    tree = ast.parse(path.read_text(encoding="utf-8"))
    for node in ast.walk(tree):
        for child in ast.iter_child_nodes(node):
            child.parent = node
    return tree


def nodes(kind):
    for path in files():
        for node in ast.walk(parsed(path)):
            if isinstance(node, kind):
                yield path, node


def called(node):
    return node.func.id if isinstance(node, ast.Call) and isinstance(node.func, ast.Name) else None


def module_of(path):
    return "linecourt" if path.stem == "__init__" else "linecourt." + path.stem


def assigned(tree):
    """All names that a file's functions bind: parameters, targets of assignments, loops, comprehensions."""
    told = {node.arg for node in ast.walk(tree) if isinstance(node, ast.arg)}
    return told | {node.id for node in ast.walk(tree) if isinstance(node, ast.Name) and isinstance(node.ctx, ast.Store)}


def defined(tree):
    told = [node.name for node in tree.body if isinstance(node, (ast.FunctionDef, ast.ClassDef))]
    for node in tree.body:
        if isinstance(node, ast.Assign):
            told.extend(target.id for target in node.targets)
    return told


class Language(unittest.TestCase):
    def fail_at(self, path, node, rule):
        self.fail(f"{rule}: {path.name}:{getattr(node, 'lineno', 0)}")

    def test_files_and_signs(self):
        self.assertLessEqual(len(files()), 100)
        for path in files():
            self.assertRegex(path.name, r"^([a-z][a-z0-9_]*|__init__|__main__)\.py$")
            self.assertNotIn(path.stem, dir(builtins))
            text = path.read_text(encoding="utf-8")
            self.assertRegex(text, r"\A[\n -~]*\Z")
            self.assertIsNone(BARRED_WORDS.search(text), path.name)

    def test_no_warnings(self):
        with warnings.catch_warnings():
            warnings.simplefilter("error")
            for path in files():
                compile(path.read_text(encoding="utf-8"), path.name, "exec")

    def test_sizes(self):
        for path in files():
            rows = path.read_text(encoding="utf-8").split("\n")
            self.assertLessEqual(len(rows), 400, path.name)
            self.assertLessEqual(max(len(row) for row in rows), 120, path.name)
        for path, node in nodes(ast.FunctionDef):
            self.assertLessEqual(node.end_lineno - node.lineno + 1, 40, (path.name, node.name))

    def test_statements(self):
        for path, node in nodes(BARRED_NODES):
            self.fail_at(path, node, f"L6, L7: {type(node).__name__}")
        for path, node in nodes(ast.FunctionDef):
            if node.decorator_list or node.args.posonlyargs or node.args.vararg or node.args.kwarg:
                self.fail_at(path, node, "L4")
            if not isinstance(node.parent, (ast.Module, ast.ClassDef)):
                self.fail_at(path, node, "L4: nested")
        for path, node in nodes(ast.Constant):
            if isinstance(node.value, (float, complex, bytes)):
                self.fail_at(path, node, "L7")
        for path, node in nodes(ast.Pow):
            self.fail_at(path, node, "L27")

    def test_module_level(self):
        for path in files():
            for at, node in enumerate(parsed(path).body):
                if isinstance(node, ast.Expr):
                    self.assertEqual(at, 0)
                    self.assertIsInstance(node.value.value, str)
                elif isinstance(node, ast.Assign):
                    for inner in ast.walk(node.value):
                        if isinstance(inner, (ast.Call, ast.ListComp, ast.Set, ast.SetComp, ast.DictComp)):
                            self.fail_at(path, inner, "L3")
                elif not isinstance(node, (ast.ImportFrom, ast.FunctionDef, ast.ClassDef)):
                    self.fail_at(path, node, "L3")

    def test_imports(self):
        trees = {module_of(path): parsed(path) for path in files()}
        leads = {name: set() for name in trees}
        for path, node in nodes(ast.ImportFrom):
            self.assertIsInstance(node.parent, ast.Module)
            self.assertEqual(node.level, 0)
            self.assertIn(node.module, trees)
            for alias in node.names:
                self.assertIn(alias.name, defined(trees[node.module]), path.name)
                self.assertIsNone(alias.asname)
            leads[module_of(path)].add(node.module)
        done = set()
        while len(done) < len(leads):
            ready = {name for name in leads if name not in done and leads[name] <= done}
            self.assertTrue(ready, "L16: files import from each other")
            done |= ready

    def test_imports_are_used(self):
        for path in files():
            tree = parsed(path)
            used = {node.id for node in ast.walk(tree) if isinstance(node, ast.Name)}
            for node in tree.body:
                for alias in node.names if isinstance(node, ast.ImportFrom) else ():
                    self.assertIn(alias.name, used, path.name)

    def test_names(self):
        for path in files():
            tree = parsed(path)
            imported = [alias.name for node in tree.body if isinstance(node, ast.ImportFrom) for alias in node.names]
            top = defined(tree) + imported
            self.assertEqual(len(top), len(set(top)), path.name)
            classes = {node.name for node in tree.body if isinstance(node, ast.ClassDef)}
            inner = assigned(tree) - set(defined(tree))
            self.assertEqual(inner & (classes | set(imported) | set(dir(builtins))), set(), path.name)
            self.assertEqual((inner | set(top)) & (BARRED_NAMES | set(dir(builtins))), set(), path.name)
            for name in inner | set(top):
                self.assertRegex(name, r"^[A-Za-z][A-Za-z0-9_]*$")
            known = inner | set(top) | BUILTINS
            for node in ast.walk(tree):
                if isinstance(node, ast.Name) and node.id not in known:
                    self.fail_at(path, node, "L8: " + node.id)

    def test_classes(self):
        methods, attributes = set(), set()
        for path, node in nodes(ast.ClassDef):
            methods |= {inner.name for inner in node.body if isinstance(inner, ast.FunctionDef)}
        for path, node in nodes(ast.Attribute):
            if isinstance(node.ctx, ast.Store):
                attributes.add(node.attr)
        self.assertEqual(methods & attributes, set())
        self.assertEqual(attributes & (BARRED_ATTRIBUTES | BARRED_NAMES), set())
        # The methods of Court, which an attribute must not have as its name.
        self.assertEqual(attributes & {"keep", "word", "written", "kept"}, set())
        for path, node in nodes(ast.Attribute):
            if isinstance(node.parent, ast.Call) and node.parent.func is node:
                self.assertIn(node.attr, METHODS | methods, path.name)
            elif not isinstance(node.ctx, ast.Store):
                self.assertIn(node.attr, attributes, path.name)

    def test_calls(self):
        for path, node in nodes(ast.Compare):
            for sign, right in zip(node.ops, node.comparators):
                if isinstance(sign, (ast.Is, ast.IsNot)):
                    self.assertIn(getattr(right, "value", 0), (None, True, False))
        own = {node.name for path, node in nodes(ast.ClassDef)}
        for path, node in nodes(ast.Call):
            if called(node) == "isinstance":
                asked = node.args[1].elts if isinstance(node.args[1], ast.Tuple) else [node.args[1]]
                self.assertTrue({name.id for name in asked} <= ASKED_CLASSES | own, path.name)
            if called(node) in ON_THE_SPOT or isinstance(node.func, ast.Attribute) and node.func.attr in (
                    "items", "keys", "values"):
                around = node.parent
                spot = isinstance(around, (ast.For, ast.comprehension)) and around.iter is node
                if not spot and called(around) not in TAKERS:
                    self.fail_at(path, node, "L23")

    def test_errors(self):
        refusals = {node.name for path, node in nodes(ast.ClassDef) if path.stem == "errors"}
        for path, node in nodes(ast.Try):
            self.assertEqual((node.orelse, node.finalbody), ([], []), path.name)
            for handler in node.handlers:
                self.assertIsNone(handler.name, path.name)
                self.assertIn(getattr(handler.type, "id", None), refusals, path.name)
        for path, node in nodes(ast.Raise):
            self.assertIn(called(node.exc), refusals, path.name)
            self.assertIsNone(node.cause, path.name)

    def test_generator_expressions_and_sets(self):
        for path, node in nodes(ast.GeneratorExp):
            if called(node.parent) not in TAKERS - {"enumerate", "zip"} and not (
                    isinstance(node.parent, ast.Call) and getattr(node.parent.func, "attr", "") == "join"):
                self.fail_at(path, node, "L7")
        for path, node in nodes((ast.SetComp, ast.Set, ast.Call)):
            if isinstance(node, ast.Call) and called(node) != "set":
                continue
            around = node.parent
            while isinstance(around, ast.BinOp):
                around = around.parent
            if called(around) not in SET_TAKERS and not isinstance(around, (ast.Compare, ast.Assign)):
                self.fail_at(path, node, "L24")

    def test_strings(self):
        for path in files():
            with io.BytesIO(path.read_bytes()) as source:
                for token in tokenize.tokenize(source.readline):
                    if token.type == tokenize.STRING:
                        self.assertNotIn("%", token.string)
                        self.assertIsNone(re.search(r"\\[^nt\\'\"]", token.string), path.name)


if __name__ == "__main__":
    unittest.main()

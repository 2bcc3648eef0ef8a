"""The rules of LANGUAGE.md that can be seen at a glance, over the whole package."""

import ast
import builtins
import pathlib
import re
import unittest
import warnings

FOLDER = pathlib.Path(__file__).resolve().parent.parent / "ballastbook"
FILES = sorted(FOLDER.glob("*.py"))
BARRED = re.compile(
    r"\b(type|typing|typing_extensions|enum|Enum|IntEnum|StrEnum|Flag|IntFlag|Generic|Protocol"
    r"|ABC|ABCMeta|namedtuple|NamedTuple|TypedDict|TYPE_CHECKING|abstractmethod)\b"
    r"|dataclass|overload|contextmanager")

BARRED_NODES = (
    ast.With, ast.AsyncWith, ast.AsyncFor, ast.AsyncFunctionDef, ast.Await, ast.Match, ast.Global,
    ast.Nonlocal, ast.Yield, ast.YieldFrom, ast.GeneratorExp, ast.NamedExpr, ast.Div, ast.MatMult)
BUILTINS = set(
    """len range enumerate zip min max sum abs sorted reversed int str bool bytes list tuple dict
    set frozenset isinstance ord repr any all divmod Exception ValueError TypeError KeyError
    IndexError LookupError ZeroDivisionError ArithmeticError OverflowError RuntimeError
    NotImplementedError AttributeError StopIteration""".split())
METHODS = set(
    """append clear copy count endswith extend find get index insert isalnum isalpha isdigit
    islower isspace isupper items join keys ljust lower lstrip partition pop remove replace
    reverse rfind rjust rpartition rsplit rstrip setdefault split splitlines startswith strip
    update upper values zfill bit_length add discard sort removeprefix isascii""".split())
DOUBLE = {"__init__", "__eq__", "__repr__", "__str__", "__len__"}


def nodes(path):
    return list(ast.walk(ast.parse(path.read_text(encoding="ascii"))))


def classes(found):
    return [node for node in found if isinstance(node, ast.ClassDef)]


def methods(node):
    return [part.name for part in node.body if isinstance(part, ast.FunctionDef)]


def assigned_attributes(found):
    return {node.attr for node in found
            if isinstance(node, ast.Attribute) and isinstance(node.ctx, ast.Store)}


def stored_names(node):
    """The parameters and local variables of a function."""
    given = node.args.posonlyargs + node.args.args + node.args.kwonlyargs
    return ({argument.arg for argument in given}
            | {part.id for part in ast.walk(node)
               if isinstance(part, ast.Name) and isinstance(part.ctx, ast.Store)})


class Rules(unittest.TestCase):
    def test_l1_the_folder_holds_nothing_but_its_files(self):
        found = [path for path in FOLDER.iterdir() if path.name != "__pycache__"]
        self.assertEqual(sorted(found), FILES)
        self.assertIn(FOLDER / "__init__.py", FILES)

    def test_l3_module_level(self):
        for path in FILES:
            body = ast.parse(path.read_text(encoding="ascii")).body
            for at, node in enumerate(body):
                plain = isinstance(node, (ast.ImportFrom, ast.FunctionDef, ast.ClassDef, ast.Assign))
                self.assertTrue(plain or at == 0 and isinstance(node, ast.Expr), path.name)

    def test_l4_and_l5_functions_and_classes(self):
        for path in FILES:
            for node in nodes(path):
                if isinstance(node, (ast.FunctionDef, ast.ClassDef)):
                    self.assertEqual(node.decorator_list, [], node.name)
                if isinstance(node, ast.FunctionDef):
                    self.assertTrue(not node.name.startswith("_") or node.name in DOUBLE, node.name)
                    self.assertEqual((node.args.vararg, node.args.kwarg, node.args.posonlyargs),
                                     (None, None, []), node.name)
                if isinstance(node, ast.ClassDef):
                    self.assertLessEqual(len(node.bases), 1, node.name)

    def test_l6_and_l7_statements_and_expressions(self):
        for path in FILES:
            for node in nodes(path):
                self.assertNotIsInstance(node, BARRED_NODES, path.name)
                if isinstance(node, (ast.For, ast.While)):
                    self.assertEqual(node.orelse, [], path.name)
                if isinstance(node, ast.Constant):
                    self.assertNotIsInstance(node.value, (float, complex), path.name)
                if isinstance(node, ast.FormattedValue):
                    self.assertIsNone(node.format_spec, path.name)

    def test_l8_builtins(self):
        for path in FILES:
            for node in nodes(path):
                if isinstance(node, ast.Name) and hasattr(builtins, node.id):
                    self.assertIn(node.id, BUILTINS, path.name)

    def test_l12_plain_names(self):
        for path in FILES:
            for node in nodes(path):
                if isinstance(node, ast.Name):
                    self.assertFalse(node.id.startswith("_"), (path.name, node.id))

    def test_l15_names_with_one_meaning(self):
        for path in FILES:
            found = nodes(path)
            taken = {alias.asname or alias.name for node in found
                     if isinstance(node, ast.ImportFrom) for alias in node.names}
            taken |= {node.name for node in found if isinstance(node, ast.ClassDef)}
            for node in found:
                if isinstance(node, ast.FunctionDef):
                    clash = {name for name in stored_names(node)
                             if name in taken or hasattr(builtins, name)}
                    self.assertEqual(clash, set(), (path.name, node.name))

    def test_l18_methods_and_attributes(self):
        found = [node for path in FILES for node in nodes(path)]
        attributes = assigned_attributes(found)
        named = [name for node in classes(found) for name in methods(node)]
        self.assertEqual(attributes & set(named), set())
        for node in classes(found):
            self.assertEqual(len(methods(node)), len(set(methods(node))), node.name)
        called = {id(node.func) for node in found if isinstance(node, ast.Call)}
        for node in found:
            if isinstance(node, ast.Attribute) and id(node) not in called:
                self.assertIn(node.attr, attributes)

    def test_l19_handlers(self):
        own = {node.name for path in FILES for node in classes(nodes(path))}
        for path in FILES:
            for node in nodes(path):
                if isinstance(node, ast.ExceptHandler):
                    self.assertIn(node.type.id, own, path.name)
                if isinstance(node, ast.Raise):
                    self.assertIn(node.exc.func.id, own, path.name)

    def test_l26_own_names(self):
        found = [node for path in FILES for node in nodes(path)]
        named = {name for node in classes(found) for name in methods(node)} - DOUBLE
        taken = {name for value in ("", 0, [], {}, set(), b"") for name in dir(value)}
        self.assertEqual((named | assigned_attributes(found)) & taken, set())

    def test_l27_strings(self):
        for path in FILES:
            for node in nodes(path):
                if isinstance(node, ast.Constant) and isinstance(node.value, str):
                    self.assertNotIn("%", node.value, path.name)
            text = path.read_text(encoding="ascii")
            self.assertEqual(re.findall(r"\\[^nt\\'\"]", text), [], path.name)

    def test_l20_is(self):
        for path in FILES:
            for node in nodes(path):
                if isinstance(node, ast.Compare):
                    for operator, right in zip(node.ops, node.comparators):
                        if isinstance(operator, (ast.Is, ast.IsNot)):
                            self.assertIsInstance(right, ast.Constant, path.name)
                            self.assertIn(right.value, (None, True, False), path.name)

    def test_l25_methods(self):
        own = {node.name for path in FILES for node in nodes(path)
               if isinstance(node, ast.FunctionDef)}
        for path in FILES:
            for node in nodes(path):
                if isinstance(node, ast.Call) and isinstance(node.func, ast.Attribute):
                    self.assertIn(node.func.attr, METHODS | own, path.name)

    def test_l10_sizes(self):
        for path in FILES:
            text = path.read_text(encoding="ascii")
            lines = text.splitlines()
            self.assertLessEqual(len(lines), 400, path.name)
            self.assertLessEqual(max(map(len, lines), default=0), 120, path.name)
            for node in ast.walk(ast.parse(text)):
                if isinstance(node, ast.FunctionDef):
                    self.assertLessEqual(node.end_lineno - node.lineno + 1, 40, node.name)

    def test_l14_characters(self):
        for path in FILES:
            self.assertEqual([sign for sign in path.read_bytes()
                              if sign != 10 and not 32 <= sign <= 126], [], path.name)

    def test_l16_imports(self):
        for path in FILES:
            for node in ast.walk(ast.parse(path.read_text(encoding="ascii"))):
                self.assertNotIsInstance(node, ast.Import, path.name)
                if isinstance(node, ast.ImportFrom):
                    self.assertEqual(node.level, 0, path.name)
                    self.assertRegex(node.module, r"^(ballastbook\.\w+|__future__)$", path.name)

    def test_l17_words(self):
        for path in FILES:
            self.assertIsNone(BARRED.search(path.read_text(encoding="ascii")), path.name)

    def test_l27_python_gives_no_warning(self):
        for path in FILES:
            with warnings.catch_warnings():
                warnings.simplefilter("error")
                compile(path.read_text(encoding="ascii"), path.name, "exec")


if __name__ == "__main__":
    unittest.main()

"""The rules of LANGUAGE.md that can be seen at a glance, over the whole package."""

import ast
import pathlib
import re
import unittest
import warnings

FOLDER = pathlib.Path(__file__).resolve().parent.parent / "ballastbook"
FILES = sorted(FOLDER.glob("*.py"))
BARRED = re.compile(
    r"\b(type|typing|typing_extensions|enum|Enum|IntEnum|StrEnum|Flag|IntFlag|Generic|Protocol"
    r"|ABC|ABCMeta|namedtuple|NamedTuple|TypedDict|TYPE_CHECKING|abstractmethod)\b"
    r"|dataclass|overload|contextmanager")


class Rules(unittest.TestCase):
    def test_l1_the_folder_holds_nothing_but_its_files(self):
        found = [path for path in FOLDER.iterdir() if path.name != "__pycache__"]
        self.assertEqual(sorted(found), FILES)
        self.assertIn(FOLDER / "__init__.py", FILES)

    def test_l10_sizes(self):
        for path in FILES:
            text = path.read_text(encoding="ascii")
            lines = text.splitlines()
            self.assertLessEqual(len(lines), 400, path.name)
            self.assertLessEqual(max(map(len, lines), default=0), 120, path.name)
            for node in ast.walk(ast.parse(text)):
                if isinstance(node, ast.FunctionDef):
                    self.assertLessEqual(node.end_lineno - node.lineno + 1, 40, node.name)

    def test_l14_characters(self):
        for path in FILES:
            self.assertEqual([sign for sign in path.read_bytes()
                              if sign != 10 and not 32 <= sign <= 126], [], path.name)

    def test_l16_imports(self):
        for path in FILES:
            for node in ast.walk(ast.parse(path.read_text(encoding="ascii"))):
                self.assertNotIsInstance(node, ast.Import, path.name)
                if isinstance(node, ast.ImportFrom):
                    self.assertEqual(node.level, 0, path.name)
                    self.assertRegex(node.module, r"^(ballastbook\.\w+|__future__)$", path.name)

    def test_l17_words(self):
        for path in FILES:
            self.assertIsNone(BARRED.search(path.read_text(encoding="ascii")), path.name)

    def test_l27_python_gives_no_warning(self):
        for path in FILES:
            with warnings.catch_warnings():
                warnings.simplefilter("error")
                compile(path.read_text(encoding="ascii"), path.name, "exec")


if __name__ == "__main__":
    unittest.main()

"""Point 1: no clock, chance or file; and the plainest of the rules for the form of the code."""

import ast
import builtins
import pathlib
import re
import unittest

PACKAGE = pathlib.Path(__file__).resolve().parent.parent / "foldcurve"

ALLOWED = set(
    "len range enumerate zip min max sum abs sorted reversed int str bool list tuple dict set frozenset isinstance "
    "ord repr any all divmod Exception ValueError TypeError KeyError IndexError LookupError ZeroDivisionError "
    "ArithmeticError OverflowError RuntimeError NotImplementedError AttributeError StopIteration".split()
)

UNSAID = re.compile(
    r"\b(type|typing|typing_extensions|enum|Enum|IntEnum|StrEnum|Flag|IntFlag|Generic|Protocol|ABC|ABCMeta"
    r"|namedtuple|NamedTuple|TypedDict|TYPE_CHECKING|abstractmethod)\b|dataclass|overload|contextmanager"
)


def files():
    return sorted(PACKAGE.rglob("*.py"))


class Plain(unittest.TestCase):
    def test_the_files_are_there(self):
        names = {"__init__.py", "errors.py", "creases.py", "way.py", "answers.py", "turns.py"}
        self.assertLessEqual(names, {file.name for file in files()})

    def test_imports_are_the_packages_own(self):
        for file in files():
            for node in ast.walk(ast.parse(file.read_text("utf-8"))):
                with self.subTest(file=file.name, line=getattr(node, "lineno", 0)):
                    self.assertNotIsInstance(node, ast.Import)
                    if isinstance(node, ast.ImportFrom):
                        self.assertEqual((node.level, node.module.split(".")[0]), (0, "foldcurve"))

    def test_no_other_name_of_pythons_own(self):
        for file in files():
            for node in ast.walk(ast.parse(file.read_text("utf-8"))):
                if isinstance(node, ast.Name) and hasattr(builtins, node.id):
                    with self.subTest(file=file.name, line=node.lineno):
                        self.assertIn(node.id, ALLOWED)

    def test_signs_words_and_sizes(self):
        for file in files():
            text = file.read_text("utf-8")
            rows = text.split("\n")
            with self.subTest(file=file.name):
                self.assertIsNone(re.search(r"[^ -~\n]", text))
                self.assertIsNone(UNSAID.search(text))
                self.assertLessEqual(len(rows), 400)
                self.assertLessEqual(max(len(row) for row in rows), 120)
                for node in ast.walk(ast.parse(text)):
                    if isinstance(node, ast.FunctionDef):
                        self.assertLessEqual(node.end_lineno - node.lineno + 1, 40)


if __name__ == "__main__":
    unittest.main()

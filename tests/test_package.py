"""What ../shared/LANGUAGE.md says of the package's files and can be seen without running them."""

import ast
import pathlib
import re
import unittest

import latestow
from latestow.spans import Spans

FOLDER = pathlib.Path(latestow.__file__).parent
BARRED = re.compile(
    r"\b(type|typing|typing_extensions|enum|Enum|IntEnum|StrEnum|Flag|IntFlag|Generic|Protocol|ABC|ABCMeta|namedtuple"
    r"|NamedTuple|TypedDict|TYPE_CHECKING|abstractmethod)\b|dataclass|overload|contextmanager"
)


def files():
    return sorted(FOLDER.rglob("*.py"))


class PackageTest(unittest.TestCase):
    def test_the_folder_holds_nothing_but_files_of_the_program(self):
        others = [p for p in FOLDER.rglob("*") if p.suffix != ".py" and "__pycache__" not in p.parts]
        self.assertEqual(others, [])

    def test_size_and_signs(self):
        for path in files():
            with self.subTest(path.name):
                text = path.read_bytes().decode("ascii")
                lines = text.split("\n")
                self.assertLessEqual(len(lines) - 1, 400)
                self.assertLessEqual(max(len(line) for line in lines), 120)
                self.assertEqual([sign for sign in text if sign != "\n" and not " " <= sign <= "~"], [])
                self.assertIsNone(BARRED.search(text))

    def test_functions_are_small(self):
        for path in files():
            for node in ast.walk(ast.parse(path.read_text())):
                if isinstance(node, ast.FunctionDef):
                    with self.subTest(path.name, function=node.name):
                        self.assertLessEqual(node.end_lineno - node.lineno + 1, 40)

    def test_imports_are_of_the_package(self):
        for path in files():
            for node in ast.walk(ast.parse(path.read_text())):
                self.assertNotIsInstance(node, ast.Import)
                if isinstance(node, ast.ImportFrom):
                    self.assertTrue(node.module.startswith("latestow."), path.name)

    def test_no_name_is_a_method_and_an_attribute(self):
        methods, attributes = set(), set()
        for path in files():
            for node in ast.walk(ast.parse(path.read_text())):
                if isinstance(node, ast.ClassDef):
                    methods |= {row.name for row in node.body if isinstance(row, ast.FunctionDef)}
                if isinstance(node, ast.Attribute) and isinstance(node.ctx, ast.Store):
                    attributes.add(node.attr)
        self.assertEqual(methods & attributes, set())

    def test_told_methods_stand_in_the_class_itself(self):
        for name in ("__len__", "__eq__", "__repr__", "__str__", "blocks", "runs", "has", "more", "less", "pieces"):
            self.assertIn(name, vars(Spans))


if __name__ == "__main__":
    unittest.main()

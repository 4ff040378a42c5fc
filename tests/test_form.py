"""Those rules of the language for the package that can be seen file by file."""

import ast
import pathlib
import re
import unittest

PACKAGE = pathlib.Path(__file__).resolve().parent.parent / "livehall"

BARRED = """type typing typing_extensions enum Enum IntEnum StrEnum Flag IntFlag Generic Protocol ABC ABCMeta
namedtuple NamedTuple TypedDict TYPE_CHECKING abstractmethod""".split()
BARRED_INSIDE = ["dataclass", "overload", "contextmanager"]


class Form(unittest.TestCase):
    def files(self):
        return [(path.name, path.read_text(encoding="utf-8")) for path in sorted(PACKAGE.glob("**/*.py"))]

    def test_the_folder_holds_plain_files_only(self):
        names = [path.name for path in PACKAGE.iterdir() if path.name != "__pycache__"]
        self.assertIn("__init__.py", names)
        for name in names:
            self.assertRegex(name, r"\A[a-z0-9_]+\.py\Z")

    def test_sizes(self):
        for name, text in self.files():
            lines = text.splitlines()
            self.assertLessEqual(len(lines), 400, name)
            self.assertLessEqual(max(map(len, lines)), 120, name)
            for node in ast.walk(ast.parse(text)):
                if isinstance(node, ast.FunctionDef):
                    self.assertLessEqual(node.end_lineno - node.lineno + 1, 40, (name, node.name))

    def test_characters(self):
        for name, text in self.files():
            self.assertRegex(text, r"\A[ -~\n]*\Z", name)

    def test_barred_words(self):
        for name, text in self.files():
            words = re.findall(r"\w+", text)
            self.assertEqual([word for word in words if word in BARRED], [], name)
            self.assertEqual([word for word in BARRED_INSIDE if word in text], [], name)

    def test_imports(self):
        for name, text in self.files():
            for node in ast.walk(ast.parse(text)):
                self.assertNotIsInstance(node, ast.Import, name)
                if isinstance(node, ast.ImportFrom):
                    self.assertEqual(node.level, 0, name)
                    self.assertTrue(node.module.startswith("livehall."), (name, node.module))


if __name__ == "__main__":
    unittest.main()

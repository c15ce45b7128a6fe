"""The rules of the language that are easily told by a look at the files, and where the interface stands."""

import ast
import pathlib
import re
import unittest

FOLDER = pathlib.Path(__file__).resolve().parent.parent / "lentbeside"
FILES = sorted(FOLDER.glob("*.py"))
INTERFACE = {
    "errors": (
        "MarketError", "BadMarket", "BadStep", "BadText", "BadBag", "BadTimes", "Lacking", "NotOwed", "TooMuch",
        "OverCap", "NothingToUndo", "NoTrade",
    ),
    "markets": ("market_error", "walk", "each_near", "shortest"),
    "texts": ("market_text", "read_market"),
    "lists": ("plainer", "fall", "list_error"),
    "even": ("the_list", "plainest", "even"),
    "papers": ("chain_paper", "parting_paper", "is_chain", "is_parting"),
}
BARRED_WORDS = (
    "type", "typing", "typing_extensions", "enum", "Enum", "IntEnum", "StrEnum", "Flag", "IntFlag", "Generic",
    "Protocol", "ABC", "ABCMeta", "namedtuple", "NamedTuple", "TypedDict", "TYPE_CHECKING", "abstractmethod",
)


class LanguageTest(unittest.TestCase):
    def test_only_plain_files(self):
        for path in FOLDER.iterdir():
            if path.name != "__pycache__":
                self.assertRegex(path.name, r"\A([a-z][a-z0-9_]*|__init__)\.py\Z")
        self.assertIn(FOLDER / "__init__.py", FILES)

    def test_characters_and_sizes(self):
        for path in FILES:
            text = path.read_text("ascii")
            lines = text.split("\n")
            self.assertRegex(text, r"\A[ -~\n]*\Z", path)
            self.assertLessEqual(len(lines), 399, path)
            self.assertLessEqual(max(len(line) for line in lines), 120, path)
            for node in ast.walk(ast.parse(text)):
                if isinstance(node, ast.FunctionDef):
                    self.assertLessEqual(node.end_lineno - node.lineno + 1, 40, (path, node.name))

    def test_barred_words(self):
        for path in FILES:
            text = path.read_text("ascii")
            self.assertEqual([word for word in re.findall(r"\w+", text) if word in BARRED_WORDS], [], path)
            for part in ("dataclass", "overload", "contextmanager"):
                self.assertNotIn(part, text, path)

    def test_imports_by_full_names(self):
        for path in FILES:
            for node in ast.walk(ast.parse(path.read_text("ascii"))):
                self.assertNotIsInstance(node, ast.Import, path)
                if isinstance(node, ast.ImportFrom):
                    self.assertEqual(node.level, 0, path)
                    self.assertRegex(node.module, r"\Alentbeside\.[a-z]+\Z", path)

    def test_the_interface_is_defined_in_its_files(self):
        for name, wanted in INTERFACE.items():
            body = ast.parse((FOLDER / f"{name}.py").read_text("ascii")).body
            defined = [node.name for node in body if isinstance(node, (ast.FunctionDef, ast.ClassDef))]
            self.assertEqual([word for word in wanted if word not in defined], [])


if __name__ == "__main__":
    unittest.main()

"""The rules of the language that are easily told by a look at the files, and where the interface stands."""

import ast
import builtins
import pathlib
import re
import unittest

FOLDER = pathlib.Path(__file__).resolve().parent.parent / "lentbeside"
FILES = sorted(FOLDER.glob("*.py"))
INTERFACE = {
    "errors": (
        "MarketError", "BadMarket", "BadStep", "BadText", "BadBag", "BadTimes", "Lacking", "NotOwed", "TooMuch",
        "OverCap", "NothingToUndo", "NoTrade",
    ),
    "markets": ("market_error", "walk", "each_near", "shortest"),
    "texts": ("market_text", "read_market"),
    "lists": ("plainer", "fall", "list_error"),
    "even": ("the_list", "plainest", "even"),
    "papers": ("chain_paper", "parting_paper", "is_chain", "is_parting"),
    "counts": ("counts", "net", "agree"),
    "helpers": ("helps", "helpers", "with_note", "lends", "barred", "helps_all", "for_all"),
    "bags": ("Bag",),
    "desks": ("Desk", "CappedDesk"),
}
MEMBERS = {
    ("bags", "Bag"): (
        "__init__", "amounts", "__getitem__", "__len__", "__bool__", "__iter__", "__str__", "__add__", "__sub__",
        "__or__", "__and__", "__mul__", "__contains__", "__eq__", "of", "LIMIT",
    ),
    ("desks", "Desk"): (
        "__init__", "market", "stock", "debt", "version", "settled", "trade", "borrow", "pay", "undo", "attempt",
        "loans", "__iadd__", "__isub__", "__len__", "__str__", "__eq__",
    ),
    ("desks", "CappedDesk"): ("__init__", "cap", "borrow", "__str__"),
}
ON_THE_SPOT = ("range", "zip", "enumerate", "reversed")
BARRED_WORDS = (
    "type", "typing", "typing_extensions", "enum", "Enum", "IntEnum", "StrEnum", "Flag", "IntFlag", "Generic",
    "Protocol", "ABC", "ABCMeta", "namedtuple", "NamedTuple", "TypedDict", "TYPE_CHECKING", "abstractmethod",
)


class LanguageTest(unittest.TestCase):
    def test_only_plain_files(self):
        for path in FOLDER.iterdir():
            if path.name != "__pycache__":
                self.assertRegex(path.name, r"\A([a-z][a-z0-9_]*|__init__)\.py\Z")
        self.assertIn(FOLDER / "__init__.py", FILES)

    def test_characters_and_sizes(self):
        for path in FILES:
            text = path.read_text("ascii")
            lines = text.split("\n")
            self.assertRegex(text, r"\A[ -~\n]*\Z", path)
            self.assertLessEqual(len(lines), 399, path)
            self.assertLessEqual(max(len(line) for line in lines), 120, path)
            for node in ast.walk(ast.parse(text)):
                if isinstance(node, ast.FunctionDef):
                    self.assertLessEqual(node.end_lineno - node.lineno + 1, 40, (path, node.name))

    def test_barred_words(self):
        for path in FILES:
            text = path.read_text("ascii")
            self.assertEqual([word for word in re.findall(r"\w+", text) if word in BARRED_WORDS], [], path)
            for part in ("dataclass", "overload", "contextmanager"):
                self.assertNotIn(part, text, path)

    def test_imports_by_full_names(self):
        for path in FILES:
            for node in ast.walk(ast.parse(path.read_text("ascii"))):
                self.assertNotIsInstance(node, ast.Import, path)
                if isinstance(node, ast.ImportFrom):
                    self.assertEqual(node.level, 0, path)
                    self.assertRegex(node.module, r"\Alentbeside\.[a-z]+\Z", path)

    def test_the_interface_is_defined_in_its_files(self):
        for name, wanted in INTERFACE.items():
            body = ast.parse((FOLDER / f"{name}.py").read_text("ascii")).body
            defined = [node.name for node in body if isinstance(node, (ast.FunctionDef, ast.ClassDef))]
            self.assertEqual([word for word in wanted if word not in defined], [])

    def test_the_members_of_classes_are_defined_in_them(self):
        for (name, wanted), members in MEMBERS.items():
            body = ast.parse((FOLDER / f"{name}.py").read_text("ascii")).body
            found = [node for node in body if isinstance(node, ast.ClassDef) and node.name == wanted][0].body
            defined = [node.name for node in found if isinstance(node, ast.FunctionDef)]
            defined += [node.targets[0].id for node in found if isinstance(node, ast.Assign)]
            self.assertEqual([member for member in members if member not in defined], [], wanted)
            self.assertEqual(len(defined), len(set(defined)))

    def test_calls_that_take_lists(self):
        for path in FILES:
            for node in ast.walk(ast.parse(path.read_text("ascii"))):
                self.assertNotIsInstance(node, ast.GeneratorExp, path)
                if isinstance(node, ast.Assign) and isinstance(node.value, ast.Call):
                    self.assertNotIn(getattr(node.value.func, "id", None), ON_THE_SPOT, (path, node.lineno))

    def test_names_of_locals(self):
        for path in FILES:
            tree = ast.parse(path.read_text("ascii"))
            taken = set(dir(builtins)) | {node.name for node in tree.body if isinstance(node, ast.ClassDef)}
            for node in tree.body:
                if isinstance(node, ast.ImportFrom):
                    taken |= {alias.asname or alias.name for alias in node.names}
            for node in ast.walk(tree):
                names = [node.arg] if isinstance(node, ast.arg) else []
                if isinstance(node, ast.Name) and isinstance(node.ctx, ast.Store):
                    names.append(node.id)
                for name in names:
                    self.assertNotIn(name, taken, path)
                    self.assertFalse(name.startswith("_"), (path, name))

    def test_methods_and_attributes_have_names_of_their_own(self):
        methods, properties, attributes = set(), set(), set()
        for path in FILES:
            for node in ast.walk(ast.parse(path.read_text("ascii"))):
                if isinstance(node, ast.ClassDef):
                    for item in node.body:
                        if isinstance(item, ast.FunctionDef):
                            read = [getattr(mark, "id", None) for mark in item.decorator_list] == ["property"]
                            (properties if read else methods).add(item.name)
                if isinstance(node, ast.Attribute) and isinstance(node.ctx, ast.Store):
                    attributes.add(node.attr)
        self.assertEqual(methods & attributes, set())
        self.assertEqual(methods & properties, set())
        self.assertEqual(attributes & properties, set())


if __name__ == "__main__":
    unittest.main()

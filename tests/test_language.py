"""Rules of the language of the program that can be seen in its files alone."""

import ast
import builtins
import pathlib
import re
import unittest

FOLDER = pathlib.Path(__file__).resolve().parent.parent / "partnercall"
WORDS_BARRED = (
    "type typing typing_extensions enum Enum IntEnum StrEnum Flag IntFlag Generic Protocol ABC ABCMeta namedtuple "
    "NamedTuple TypedDict TYPE_CHECKING abstractmethod"
).split()
BUILTINS = (
    "len range enumerate zip min max sum abs sorted reversed int str bool list tuple dict set isinstance ord repr "
    "any all divmod ValueError KeyError IndexError LookupError OverflowError RuntimeError iter next"
).split()


METHODS = (
    "append clear copy count endswith extend find get index insert isalnum isalpha isdigit islower isspace isupper "
    "items join keys ljust lower lstrip partition pop remove replace reverse rfind rjust rpartition rsplit rstrip "
    "setdefault split splitlines startswith strip update upper values zfill bit_length add discard"
).split()


def sources():
    return {path: path.read_text("ascii") for path in sorted(FOLDER.glob("*.py"))}


def trees():
    return {path.stem: ast.parse(text) for path, text in sources().items()}


class Files(unittest.TestCase):
    def test_nothing_but_python_files(self):
        names = [path.name for path in FOLDER.iterdir() if path.name != "__pycache__"]
        self.assertIn("__init__.py", names)
        for name in names:
            self.assertRegex(name, r"^(__init__|[a-z][a-z0-9_]*)\.py$")

    def test_sizes(self):
        for path, text in sources().items():
            lines = text.split("\n")
            self.assertLessEqual(len(lines), 400, path)
            self.assertLessEqual(max(len(line) for line in lines), 120, path)
            for node in ast.walk(ast.parse(text)):
                if isinstance(node, ast.FunctionDef):
                    self.assertLessEqual(node.end_lineno - node.lineno + 1, 40, node.name)

    def test_characters_and_words(self):
        for path, text in sources().items():
            self.assertRegex(text, r"\A[ -~\n]*\Z", path)
            for word in WORDS_BARRED:
                self.assertIsNone(re.search(rf"\b{word}\b", text), (path, word))


class Code(unittest.TestCase):
    def test_module_level(self):
        allowed = (ast.ImportFrom, ast.FunctionDef, ast.ClassDef, ast.Assign)
        for name, tree in trees().items():
            self.assertIsNotNone(ast.get_docstring(tree), name)
            for node in tree.body[1:]:
                self.assertIsInstance(node, allowed, name)

    def test_imports_go_one_way(self):
        reached = {}
        for name, tree in trees().items():
            found = [node for node in ast.walk(tree) if isinstance(node, (ast.Import, ast.ImportFrom))]
            for node in found:
                self.assertIsInstance(node, ast.ImportFrom)
                self.assertRegex(node.module, r"^partnercall\.[a-z_0-9]+$")
                self.assertEqual(node.level, 0)
            reached[name] = {node.module.split(".")[1] for node in found}
        while reached:
            free = [name for name in reached if not reached[name] & set(reached)]
            self.assertNotEqual(free, [], "files import from each other")
            for name in free:
                del reached[name]

    def test_names(self):
        for file, tree in trees().items():
            imported = {alias.name for node in ast.walk(tree) if isinstance(node, ast.ImportFrom)
                        for alias in node.names}
            classes = {node.name for node in ast.walk(tree) if isinstance(node, ast.ClassDef)}
            for node in ast.walk(tree):
                if isinstance(node, ast.arg):
                    bound = node.arg
                elif isinstance(node, ast.Name) and isinstance(node.ctx, ast.Store):
                    bound = node.id
                else:
                    continue
                self.assertRegex(bound, r"^[A-Za-z]", file)
                self.assertNotIn(bound, dir(builtins), file)
                self.assertNotIn(bound, imported | classes, file)

    def test_only_known_builtins(self):
        for file, tree in trees().items():
            nodes = list(ast.walk(tree))
            known = set(BUILTINS)
            known |= {node.id for node in nodes if isinstance(node, ast.Name) and isinstance(node.ctx, ast.Store)}
            known |= {node.arg for node in nodes if isinstance(node, ast.arg)}
            known |= {node.name for node in nodes if isinstance(node, (ast.FunctionDef, ast.ClassDef))}
            known |= {alias.name for node in nodes if isinstance(node, ast.ImportFrom) for alias in node.names}
            for node in nodes:
                if isinstance(node, ast.Name):
                    self.assertIn(node.id, known, file)

    def test_methods_and_attributes(self):
        methods, attributes = set(), set()
        for tree in trees().values():
            for node in ast.walk(tree):
                if isinstance(node, ast.ClassDef):
                    methods |= {part.name for part in node.body if isinstance(part, ast.FunctionDef)}
                if isinstance(node, ast.Attribute) and isinstance(node.ctx, ast.Store):
                    attributes.add(node.attr)
        self.assertEqual(methods & attributes, set())
        for name in methods | attributes:
            for kind in (str, int, list, dict, set, bytes):
                self.assertFalse(hasattr(kind, name) and not name.startswith("__"), name)
        for file, tree in trees().items():
            for node in ast.walk(tree):
                if isinstance(node, ast.Call) and isinstance(node.func, ast.Attribute):
                    self.assertIn(node.func.attr, METHODS + sorted(methods), file)
                elif isinstance(node, ast.Attribute):
                    self.assertIn(node.attr, sorted(methods | attributes) + METHODS, file)

    def test_powers_and_generators(self):
        # Where a class has __eq__, the builtins take lists; so generator expressions are left out throughout.
        for file, tree in trees().items():
            for node in ast.walk(tree):
                self.assertNotIsInstance(node, (ast.GeneratorExp, ast.Yield, ast.YieldFrom, ast.NamedExpr), file)
                if isinstance(node, ast.BinOp) and isinstance(node.op, ast.Pow):
                    self.assertIsInstance(node.right, ast.Constant, file)

    def test_no_barred_syntax(self):
        barred = (ast.Global, ast.AsyncFunctionDef, ast.Await, ast.Div, ast.Import)
        for file, tree in trees().items():
            for node in ast.walk(tree):
                self.assertNotIsInstance(node, barred, file)
                if isinstance(node, ast.Constant):
                    self.assertNotIsInstance(node.value, (float, complex), file)
                    if isinstance(node.value, str):
                        self.assertNotIn("%", node.value, file)
                if isinstance(node, ast.Compare) and isinstance(node.ops[0], (ast.Is, ast.IsNot)):
                    self.assertIsInstance(node.comparators[0], ast.Constant, file)


if __name__ == "__main__":
    unittest.main()

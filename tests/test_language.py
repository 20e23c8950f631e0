"""Some rules of the language in which the package is written: sizes, signs, words, imports and names."""

import ast
import builtins
import pathlib
import re
import unittest

import keytables

FOLDER = pathlib.Path(keytables.__file__).parent
TEXTS = {path.stem: path.read_text() for path in FOLDER.glob("*.py")}
TREES = {name: ast.parse(text) for name, text in TEXTS.items()}
BARRED = re.compile(
    r"\b(type|typing|typing_extensions|enum|Enum|IntEnum|StrEnum|Flag|IntFlag|Generic|Protocol|ABC|ABCMeta|namedtuple"
    r"|NamedTuple|TypedDict|TYPE_CHECKING|abstractmethod)\b|dataclass|overload|contextmanager")
BUILTINS = set("len range enumerate zip min max sum abs sorted reversed int str bool list tuple dict set isinstance "
               "ord repr any all divmod super ValueError".split())


def nodes(kind):
    """All nodes of a kind, each with the name of its file."""
    return [(name, node) for name, tree in TREES.items() for node in ast.walk(tree) if isinstance(node, kind)]


def top_names(name):
    """What a file defines itself."""
    told = set()
    for node in TREES[name].body:
        if isinstance(node, (ast.FunctionDef, ast.ClassDef)):
            told.add(node.name)
        if isinstance(node, ast.Assign):
            told |= {target.id for target in node.targets}
    return told


def local_names(function):
    """The parameters and variables of a function."""
    told = {parameter.arg for parameter in function.args.args}
    for node in ast.walk(function):
        if isinstance(node, ast.Name) and isinstance(node.ctx, ast.Store):
            told.add(node.id)
        if isinstance(node, (ast.MatchAs, ast.MatchStar)) and node.name:
            told.add(node.name)
    return told


class Language(unittest.TestCase):
    def test_files_of_the_package_alone(self):
        others = [path.name for path in FOLDER.iterdir() if path.suffix != ".py"]
        self.assertIn(others, [[], ["__pycache__"]])

    def test_signs_and_words(self):
        for name, text in TEXTS.items():
            self.assertIsNone(re.search(r"[^ -~\n]|%", text), name)
            self.assertIsNone(BARRED.search(text), name)

    def test_sizes(self):
        for name, text in TEXTS.items():
            self.assertLessEqual(len(text.splitlines()), 400, name)
            self.assertLessEqual(max(map(len, text.splitlines())), 120, name)
        for name, node in nodes(ast.FunctionDef):
            self.assertLessEqual(node.end_lineno - node.lineno + 1, 40, (name, node.name))

    def test_imports_name_the_file_that_defines_the_name_and_make_no_ring(self):
        above = {name: set() for name in TREES}
        self.assertEqual(nodes(ast.Import), [])
        for name, node in nodes(ast.ImportFrom):
            package, file = node.module.split(".")
            self.assertEqual((package, node.level), ("keytables", 0))
            self.assertLessEqual({alias.name for alias in node.names}, top_names(file), (name, file))
            above[name].add(file)
        while above:
            free = [name for name in above if not above[name] & set(above)]
            self.assertTrue(free, above)
            above = {name: files for name, files in above.items() if name not in free}

    def test_no_local_name_is_that_of_an_import_a_class_or_a_builtin(self):
        for name, function in nodes(ast.FunctionDef):
            classes = {node.name for node in TREES[name].body if isinstance(node, ast.ClassDef)}
            imports = [node for node in TREES[name].body if isinstance(node, ast.ImportFrom)]
            taken = classes | {alias.name for node in imports for alias in node.names} | set(dir(builtins))
            self.assertEqual(local_names(function) & taken, set(), (name, function.name))

    def test_builtins_that_may_be_used(self):
        for name, node in nodes(ast.Name):
            if isinstance(node.ctx, ast.Load) and hasattr(builtins, node.id):
                self.assertIn(node.id, BUILTINS, name)

    def test_no_name_is_a_method_and_an_attribute(self):
        parts = [part for name, node in nodes(ast.ClassDef) for part in node.body]
        methods = {part.name for part in parts if isinstance(part, ast.FunctionDef)}
        stored = {node.attr for name, node in nodes(ast.Attribute) if isinstance(node.ctx, ast.Store)}
        self.assertEqual(methods & stored, set())


if __name__ == "__main__":
    unittest.main()

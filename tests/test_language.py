"""The rules of the language that can be seen in a file, held against the package's own files."""

import ast
import builtins
import pathlib
import re
import unittest

PACKAGE = pathlib.Path(__file__).resolve().parent.parent / "lasttricksdesk"

STATEMENTS = (ast.Module, ast.FunctionDef, ast.ClassDef, ast.ImportFrom, ast.Assign, ast.AugAssign, ast.If,
              ast.While, ast.For, ast.Return, ast.Break, ast.Continue, ast.Pass, ast.Raise, ast.Try, ast.Expr)

VALUES = (ast.Constant, ast.Name, ast.Attribute, ast.Subscript, ast.Slice, ast.Call, ast.BinOp, ast.BoolOp,
          ast.UnaryOp, ast.Compare, ast.IfExp, ast.Tuple, ast.List, ast.Dict, ast.ListComp, ast.JoinedStr,
          ast.FormattedValue, ast.Lambda)

BUILT_IN = """len range enumerate zip min max sum abs sorted reversed int str bool list tuple dict set frozenset
    isinstance ord repr any all divmod Exception ValueError TypeError KeyError IndexError LookupError
    ZeroDivisionError ArithmeticError OverflowError RuntimeError NotImplementedError StopIteration""".split()

METHODS = """append clear copy count endswith extend find get index insert isalnum isalpha isdigit islower isspace
    isupper items join keys ljust lower lstrip partition pop remove replace reverse rfind rjust rpartition rsplit
    rstrip setdefault split splitlines startswith strip update upper values zfill bit_length""".split()

FORBIDDEN_WORDS = """type typing typing_extensions enum Enum IntEnum StrEnum Flag IntFlag Generic Protocol ABC
    ABCMeta namedtuple NamedTuple TypedDict TYPE_CHECKING abstractmethod""".split()

FORBIDDEN_PARTS = ["dataclass", "overload", "contextmanager"]


def names_bound(tree):
    """Every name that the file gives a meaning to."""
    bound = set()
    for node in ast.walk(tree):
        if isinstance(node, (ast.FunctionDef, ast.ClassDef)):
            bound.add(node.name)
        elif isinstance(node, ast.ImportFrom):
            bound.update(alias.name for alias in node.names)
        elif isinstance(node, ast.arg):
            bound.add(node.arg)
        elif isinstance(node, ast.Name) and isinstance(node.ctx, ast.Store):
            bound.add(node.id)
    return bound


class Language(unittest.TestCase):
    def setUp(self):
        self.sources = {path: path.read_text() for path in sorted(PACKAGE.glob("*.py"))}
        self.trees = {path: ast.parse(source) for path, source in self.sources.items()}

    def nodes(self, kind):
        return [(path.name, node) for path, tree in self.trees.items() for node in ast.walk(tree)
                if isinstance(node, kind)]

    def test_nothing_but_files_of_the_program(self):
        others = [path.name for path in PACKAGE.iterdir() if path.suffix != ".py" and path.name != "__pycache__"]
        self.assertEqual(others, [])
        self.assertIn("__init__.py", [path.name for path in self.sources])
        for path in self.sources:
            self.assertRegex(path.name, r"^(__init__|[a-z][a-z0-9_]*)\.py$")

    def test_size_and_signs(self):
        for path, source in self.sources.items():
            self.assertLessEqual(len(source.splitlines()), 399, path.name)
            self.assertIsNone(re.search(r"[^ -~\n]", source), path.name)
            for line in source.splitlines():
                self.assertLessEqual(len(line), 120, (path.name, line))
        for name, node in self.nodes(ast.FunctionDef):
            self.assertLessEqual(node.end_lineno - node.lineno + 1, 40, (name, node.name))

    def test_words(self):
        for path, source in self.sources.items():
            for word in FORBIDDEN_WORDS:
                self.assertIsNone(re.search(rf"\b{word}\b", source), (path.name, word))
            for part in FORBIDDEN_PARTS:
                self.assertNotIn(part, source, path.name)

    def test_statements_and_values(self):
        for name, node in self.nodes(ast.stmt):
            self.assertIsInstance(node, STATEMENTS, (name, node.lineno))
        for name, node in self.nodes(ast.expr):
            self.assertIsInstance(node, VALUES, (name, node.lineno))
        for name, node in self.nodes((ast.Div, ast.MatMult)):
            self.fail(f"{name}: a division with a rest")
        for name, node in self.nodes(ast.Assign):
            self.assertEqual(len(node.targets), 1, (name, node.lineno))
            self.assertNotIsInstance(node.targets[0], (ast.Tuple, ast.List), (name, node.lineno))

    def test_imports_are_the_package_s_own(self):
        for name, node in self.nodes(ast.ImportFrom):
            self.assertEqual(node.level, 0, name)
            self.assertTrue(node.module.startswith("lasttricksdesk."), (name, node.module))
            self.assertTrue((PACKAGE / (node.module.split(".")[1] + ".py")).exists(), (name, node.module))
            for alias in node.names:
                self.assertIsNone(alias.asname, name)
                self.assertNotEqual(alias.name, "*", name)

    def test_imports_are_from_the_file_that_defines_the_name_and_never_in_a_ring(self):
        drawn = {path.stem: set() for path in self.trees}
        tops = {path.stem: [node.name for node in tree.body if isinstance(node, (ast.FunctionDef, ast.ClassDef))]
                for path, tree in self.trees.items()}
        for path, tree in self.trees.items():
            for node in tree.body:
                if isinstance(node, ast.ImportFrom):
                    source = node.module.split(".")[1]
                    drawn[path.stem].add(source)
                    for alias in node.names:
                        self.assertIn(alias.name, tops[source], (path.name, source))
        while drawn:
            ends = [stem for stem, sources in drawn.items() if not sources & set(drawn)]
            self.assertNotEqual(ends, [], drawn)
            for stem in ends:
                drawn.pop(stem)

    def test_each_name_once_at_a_file_s_top(self):
        for path, tree in self.trees.items():
            tops = []
            for node in tree.body:
                if isinstance(node, (ast.FunctionDef, ast.ClassDef)):
                    tops.append(node.name)
                elif isinstance(node, ast.ImportFrom):
                    tops += [alias.name for alias in node.names]
                elif isinstance(node, ast.Assign):
                    tops.append(node.targets[0].id)
            self.assertEqual(sorted(tops), sorted(set(tops)), path.name)
            inner = {node.arg for node in ast.walk(tree) if isinstance(node, ast.arg)}
            inner |= {node.id for top in tree.body if not isinstance(top, ast.Assign) for node in ast.walk(top)
                      if isinstance(node, ast.Name) and isinstance(node.ctx, ast.Store)}
            self.assertEqual(sorted(inner & set(tops)), [], path.name)

    def test_the_interface_stands_where_its_name_tells(self):
        found = [(name, node.name) for name, node in self.nodes(ast.FunctionDef) if node.name == "answers"]
        self.assertEqual(found, [("endings.py", "answers")])

    def test_functions_have_plain_parameters(self):
        for name, node in self.nodes(ast.FunctionDef):
            given = node.args
            self.assertEqual(node.decorator_list, [], (name, node.name))
            self.assertEqual((given.vararg, given.kwarg, given.kwonlyargs, given.posonlyargs),
                             (None, None, [], []), (name, node.name))

    def test_names(self):
        allowed_built_in = set(BUILT_IN)
        for path, tree in self.trees.items():
            bound = names_bound(tree)
            self.assertEqual(sorted(bound & set(dir(builtins))), [], path.name)
            for node in ast.walk(tree):
                if isinstance(node, ast.Name):
                    self.assertIn(node.id, bound | allowed_built_in, (path.name, node.lineno))
            for word in bound - {"__init__"}:
                self.assertRegex(word, r"^[A-Za-z][A-Za-z0-9_]*$", path.name)

    def test_attributes_are_the_program_s_own_or_allowed(self):
        own = {node.name for name, node in self.nodes(ast.FunctionDef)}
        values = {node.attr for name, node in self.nodes(ast.Attribute) if isinstance(node.ctx, ast.Store)}
        self.assertEqual(sorted(own & values), [])
        for name, node in self.nodes(ast.Attribute):
            self.assertIn(node.attr, own | values | set(METHODS), (name, node.lineno))


if __name__ == "__main__":
    unittest.main()

"""The package keeps to its part of Python: the rules of LANGUAGE.md that a walk over the code can see."""

import ast
import builtins
import pathlib
import re
import unittest

PACKAGE = pathlib.Path(__file__).resolve().parent.parent / "ringmaze"
FILES = sorted(PACKAGE.rglob("*.py"))

STATEMENTS = (ast.Assign, ast.AugAssign, ast.If, ast.While, ast.For, ast.Return, ast.Break, ast.Continue, ast.Pass,
              ast.Raise, ast.Try, ast.Expr, ast.FunctionDef, ast.ClassDef, ast.ImportFrom)
EXPRESSIONS = (ast.Constant, ast.List, ast.Tuple, ast.Dict, ast.Set, ast.BinOp, ast.UnaryOp, ast.BoolOp, ast.Compare,
               ast.IfExp, ast.Call, ast.Attribute, ast.Subscript, ast.Slice, ast.ListComp, ast.JoinedStr,
               ast.FormattedValue, ast.Name, ast.Lambda)
OWN_NAMES = set("""len range enumerate zip min max sum abs sorted reversed int str bool list tuple dict set frozenset
    isinstance ord repr any all divmod Exception ValueError TypeError KeyError IndexError LookupError
    ZeroDivisionError ArithmeticError OverflowError RuntimeError NotImplementedError AttributeError
    StopIteration""".split())
OWN_METHODS = set("""append clear copy count endswith extend find get index insert isalnum isalpha isdigit islower
    isspace isupper items join keys ljust lower lstrip partition pop remove replace reverse rfind rjust rpartition
    rsplit rstrip setdefault split splitlines startswith strip update upper values zfill bit_length""".split())
METHODS_WITH_UNDERSCORES = ("__init__", "__eq__", "__repr__", "__str__", "__len__")
BANNED_WORDS = re.compile(r"\b(type|typing|typing_extensions|enum|Enum|IntEnum|StrEnum|Flag|IntFlag|Generic|Protocol|ABC"
                          r"|ABCMeta|namedtuple|NamedTuple|TypedDict|TYPE_CHECKING|abstractmethod)\b"
                          r"|dataclass|overload|contextmanager")
BANNED_NAMES = set("""register mro elements open input version_info with_traceback add_note attrgetter breakpoint
    builtins compile copyright credits delattr dir eval exec exit gc getattr globals hasattr help id importlib license
    locals methodcaller os quit setattr super vars sys chr format format_map""".split())


def nodes(tree, *kinds):
    return [node for node in ast.walk(tree) if isinstance(node, kinds)]


def bound_names(tree):
    names = [node.id for node in nodes(tree, ast.Name) if isinstance(node.ctx, ast.Store)]
    names += [node.arg for node in nodes(tree, ast.arg)]
    return names + [node.name for node in nodes(tree, ast.ExceptHandler) if node.name]


def defined_at_top(tree):
    names = [node.name for node in tree.body if isinstance(node, (ast.FunctionDef, ast.ClassDef))]
    for node in tree.body:
        if isinstance(node, ast.Assign):
            names += [target.id for target in node.targets]
    return names


def module_name(path):
    return ".".join(path.relative_to(PACKAGE.parent).with_suffix("").parts)


class LanguageTest(unittest.TestCase):
    def setUp(self):
        self.texts = {path: path.read_text("utf-8") for path in FILES}
        self.trees = {path: ast.parse(text) for path, text in self.texts.items()}
        self.assertIn(PACKAGE / "__init__.py", self.trees)

    def test_files(self):
        for path in PACKAGE.rglob("*"):
            if "__pycache__" not in path.parts:
                self.assertRegex(path.name, r"^([a-z][a-z0-9_]*|__init__|__main__)\.py$")
                self.assertNotIn(path.stem, dir(builtins))
                self.assertNotRegex(path.stem, r"^(test.*|tests|site|conftest|sitecustomize|usercustomize)$")

    def test_signs_and_sizes(self):
        for path, text in self.texts.items():
            self.assertRegex(text, r"\A[ -~\n]*\Z", path)
            lines = text.split("\n")
            self.assertLessEqual(len(lines), 400, path)
            self.assertLessEqual(max(len(line) for line in lines), 120, path)
            for node in nodes(self.trees[path], ast.FunctionDef):
                self.assertLessEqual(node.end_lineno - node.lineno + 1, 40, (path, node.name))

    def test_banned_words(self):
        for path, text in self.texts.items():
            self.assertIsNone(BANNED_WORDS.search(text), path)

    def test_statements_and_expressions(self):
        for path, tree in self.trees.items():
            for node in nodes(tree, ast.stmt):
                self.assertIsInstance(node, STATEMENTS, (path, node.lineno))
            for node in nodes(tree, ast.expr):
                self.assertIsInstance(node, EXPRESSIONS, (path, node.lineno))
            for node in nodes(tree, ast.For, ast.While):
                self.assertEqual(node.orelse, [], (path, node.lineno))
            for node in nodes(tree, ast.Assign):
                self.assertEqual(len(node.targets), 1, (path, node.lineno))
            for node in nodes(tree, ast.Try):
                self.assertEqual(node.finalbody, [], (path, node.lineno))
            for node in nodes(tree, ast.ListComp):
                self.assertEqual(len(node.generators), 1, (path, node.lineno))
                self.assertLessEqual(len(node.generators[0].ifs), 1, (path, node.lineno))

    def test_values(self):
        for path, tree in self.trees.items():
            self.assertEqual(nodes(tree, ast.Div), [], path)
            for node in nodes(tree, ast.Constant):
                self.assertIsInstance(node.value, (int, str, type(None)), (path, node.lineno))
                if isinstance(node.value, str):
                    self.assertNotIn("%", node.value, (path, node.lineno))
            for node in nodes(tree, ast.FormattedValue):
                self.assertIsInstance(node.value, ast.Name, (path, node.lineno))
                self.assertIsNone(node.format_spec, (path, node.lineno))
            for node in nodes(tree, ast.BinOp):
                if isinstance(node.op, ast.Pow):
                    self.assertIsInstance(node.right, ast.Constant, (path, node.lineno))
            for node in nodes(tree, ast.Compare):
                for operator, right in zip(node.ops, node.comparators):
                    if isinstance(operator, (ast.Is, ast.IsNot)):
                        self.assertIn(getattr(right, "value", 0), (None, True, False), (path, node.lineno))

    def test_functions_and_classes(self):
        for path, tree in self.trees.items():
            for node in nodes(tree, ast.FunctionDef):
                self.assertEqual(node.decorator_list, [], (path, node.name))
                self.assertEqual((node.args.vararg, node.args.kwarg, node.args.kwonlyargs), (None, None, []), path)
            for node in nodes(tree, ast.ClassDef):
                self.assertIn(node, tree.body, (path, node.name))
                self.assertEqual((node.decorator_list, node.keywords), ([], []), (path, node.name))
                self.assertLessEqual(len(node.bases), 1, (path, node.name))
                for part in node.body:
                    self.assertIsInstance(part, (ast.FunctionDef, ast.Expr, ast.Pass), (path, node.name))

    def test_the_top_of_a_file(self):
        for path, tree in self.trees.items():
            names = defined_at_top(tree)
            self.assertEqual(len(names), len(set(names)), path)
            self.assertIsNotNone(ast.get_docstring(tree), path)
            for node in tree.body[1:]:
                self.assertIsInstance(node, (ast.Assign, ast.FunctionDef, ast.ClassDef, ast.ImportFrom), path)
                if isinstance(node, ast.Assign):
                    for part in nodes(node.value, ast.expr):
                        self.assertIsInstance(part, (ast.Constant, ast.Tuple, ast.List, ast.Dict), (path, node.lineno))
                        if isinstance(part, (ast.List, ast.Dict)):
                            self.assertIs(part, node.value, (path, node.lineno))

    def test_names(self):
        for path, tree in self.trees.items():
            imported = [alias.name for node in nodes(tree, ast.ImportFrom) for alias in node.names]
            classes = [node.name for node in nodes(tree, ast.ClassDef)]
            known = OWN_NAMES | set(imported + defined_at_top(tree) + bound_names(tree))
            known |= {node.name for node in nodes(tree, ast.FunctionDef)}
            for name in bound_names(tree):
                self.assertRegex(name, r"^[A-Za-z][A-Za-z0-9_]*$", path)
                self.assertNotIn(name, dir(builtins) + imported + classes, path)
            for node in nodes(tree, ast.FunctionDef):
                if node.name not in METHODS_WITH_UNDERSCORES:
                    self.assertRegex(node.name, r"^[A-Za-z][A-Za-z0-9_]*$", path)
            for node in nodes(tree, ast.Name):
                self.assertIn(node.id, known, (path, node.lineno))
                self.assertNotIn(node.id, BANNED_NAMES, (path, node.lineno))

    def test_methods(self):
        own = set(OWN_METHODS) | {"__init__"}
        for tree in self.trees.values():
            for kind in nodes(tree, ast.ClassDef):
                own |= {part.name for part in kind.body if isinstance(part, ast.FunctionDef)}
        for path, tree in self.trees.items():
            for node in nodes(tree, ast.Attribute):
                self.assertNotIn(node.attr, BANNED_NAMES, (path, node.lineno))
            for node in nodes(tree, ast.Call):
                if isinstance(node.func, ast.Attribute):
                    self.assertIn(node.func.attr, own, (path, node.lineno))

    def test_imports(self):
        drawn = {}
        tops = {module_name(path): defined_at_top(tree) for path, tree in self.trees.items()}
        for path, tree in self.trees.items():
            drawn[module_name(path)] = []
            for node in nodes(tree, ast.ImportFrom):
                self.assertIn(node, tree.body, path)
                self.assertEqual(node.level, 0, path)
                self.assertIn(node.module, tops, path)
                for alias in node.names:
                    self.assertIsNone(alias.asname, path)
                    self.assertIn(alias.name, tops[node.module], path)
                drawn[module_name(path)].append(node.module)
        while drawn:
            free = [name for name in drawn if not set(drawn[name]) & set(drawn)]
            self.assertTrue(free, f"files draw from one another: {sorted(drawn)}")
            drawn = {name: drawn[name] for name in drawn if name not in free}


if __name__ == "__main__":
    unittest.main()

"""Holds the package's files to the part of Python that the program keeps to, as far as a short look can tell."""

import ast
import builtins
import pathlib
import re
import unittest

PACKAGE = pathlib.Path(__file__).resolve().parent.parent / "cutway"

NODES = (
    "Module FunctionDef ClassDef arguments arg Lambda Assign AugAssign If While For Return Break Continue Pass Raise "
    "Try ExceptHandler Expr Call ImportFrom alias Constant List Tuple Dict Set Name Attribute Subscript Slice "
    "ListComp comprehension BinOp UnaryOp BoolOp Compare IfExp JoinedStr FormattedValue keyword Load Store "
    "Add Sub Mult FloorDiv Mod Pow BitAnd BitOr BitXor LShift RShift Invert USub UAdd Not And Or "
    "Eq NotEq Lt LtE Gt GtE Is IsNot In NotIn"
).split()
BUILTINS = (
    "len range enumerate zip min max sum abs sorted reversed int str bool list tuple dict set frozenset isinstance "
    "ord repr any all divmod Exception ValueError TypeError KeyError IndexError LookupError ZeroDivisionError "
    "ArithmeticError OverflowError RuntimeError NotImplementedError AttributeError StopIteration"
).split()
METHODS = (
    "append clear copy count endswith extend find get index insert isalnum isalpha isdigit islower isspace isupper "
    "items join keys ljust lower lstrip partition pop remove replace reverse rfind rjust rpartition rsplit rstrip "
    "setdefault split splitlines startswith strip update upper values zfill bit_length __init__"
).split()
TWO_UNDERSCORES = "__init__ __eq__ __repr__ __str__ __len__ __all__ __version__".split()
WORDS = (
    "type typing typing_extensions enum Enum IntEnum StrEnum Flag IntFlag Generic Protocol ABC ABCMeta namedtuple "
    "NamedTuple TypedDict TYPE_CHECKING abstractmethod"
).split()
NOWHERE = "register mro elements open input version_info with_traceback add_note".split()


def package_files():
    return sorted(PACKAGE.glob("*.py"))


def trees():
    return [(path.name, ast.parse(path.read_text(encoding="utf-8"))) for path in package_files()]


def nodes():
    return [(name, node) for name, tree in trees() for node in ast.walk(tree)]


def bound_names(node):
    if isinstance(node, ast.arg):
        return [node.arg]
    if isinstance(node, ast.Name) and isinstance(node.ctx, ast.Store):
        return [node.id]
    if isinstance(node, (ast.FunctionDef, ast.ClassDef)):
        return [node.name]
    return []


class LanguageTest(unittest.TestCase):
    def test_the_folder_holds_plain_files_alone(self):
        for path in PACKAGE.iterdir():
            if path.name != "__pycache__":
                self.assertRegex(path.name, r"^([a-z][a-z0-9_]*|__init__|__main__)\.py$")
        self.assertTrue((PACKAGE / "__init__.py").is_file())

    def test_signs_and_sizes(self):
        for path in package_files():
            text = path.read_bytes().decode("ascii")
            lines = text.split("\n")
            self.assertTrue(all(sign == "\n" or " " <= sign <= "~" for sign in text), path.name)
            self.assertLessEqual(len(lines), 400, path.name)
            self.assertLessEqual(max(len(line) for line in lines), 120, path.name)

    def test_functions_are_short(self):
        for name, node in nodes():
            if isinstance(node, ast.FunctionDef):
                self.assertLessEqual(node.end_lineno - node.lineno + 1, 40, (name, node.name))
                self.assertEqual(node.decorator_list, [], (name, node.name))
                handed_in = node.args
                self.assertFalse(handed_in.vararg or handed_in.kwarg or handed_in.kwonlyargs or handed_in.posonlyargs)

    def test_words_that_stand_nowhere(self):
        for path in package_files():
            text = path.read_text(encoding="utf-8")
            for word in WORDS:
                self.assertIsNone(re.search(rf"\b{word}\b", text), (path.name, word))
            self.assertIsNone(re.search("dataclass|overload|contextmanager", text), path.name)

    def test_forms(self):
        for name, node in nodes():
            where = (name, getattr(node, "lineno", 0), node.__class__.__name__)
            self.assertIn(node.__class__.__name__, NODES, where)
            if isinstance(node, ast.Assign):
                self.assertEqual(len(node.targets), 1, where)
            if isinstance(node, (ast.For, ast.While)):
                self.assertEqual(node.orelse, [], where)
            if isinstance(node, ast.Try):
                self.assertEqual(node.finalbody, [], where)
            if isinstance(node, ast.ListComp):
                self.assertEqual(len(node.generators), 1, where)
                self.assertLessEqual(len(node.generators[0].ifs), 1, where)
            if isinstance(node, ast.Constant):
                self.assertIn(node.value.__class__, (int, str, bool, None.__class__), where)

    def test_names(self):
        for name, node in nodes():
            for bound in bound_names(node):
                self.assertFalse(bound in dir(builtins), (name, bound))
                self.assertFalse(bound.startswith("_") and bound not in TWO_UNDERSCORES, (name, bound))
                self.assertNotIn(bound, NOWHERE, name)
            if isinstance(node, ast.Name) and node.id in dir(builtins):
                self.assertIn(node.id, BUILTINS, (name, node.lineno))

    def test_methods(self):
        own = [node.name for name, node in nodes() if isinstance(node, ast.FunctionDef)]
        for name, node in nodes():
            if isinstance(node, ast.Call) and isinstance(node.func, ast.Attribute):
                self.assertIn(node.func.attr, METHODS + own, (name, node.lineno))
            if isinstance(node, ast.Attribute):
                self.assertNotIn(node.attr, NOWHERE + ["format", "format_map"], (name, node.lineno))

    def test_imports_draw_from_the_file_that_defines_the_name(self):
        defined = {}
        for name, tree in trees():
            tops = [bound for top in tree.body for bound in bound_names(top)]
            tops += [target.id for top in tree.body if isinstance(top, ast.Assign) for target in top.targets]
            defined["cutway." + name[:-3]] = tops
        for name, tree in trees():
            for top in tree.body:
                if isinstance(top, ast.ImportFrom):
                    self.assertEqual(top.level, 0, name)
                    for alias in top.names:
                        self.assertIn(alias.name, defined.get(top.module, []), (name, top.module))


if __name__ == "__main__":
    unittest.main()

"""The form of the package's files: what can be seen of ../shared/LANGUAGE.md without running them."""

import ast
import builtins
import pathlib
import re
import unittest

PACKAGE = pathlib.Path(__file__).resolve().parent.parent / "contestways"

STATEMENTS = (
    ast.Module, ast.FunctionDef, ast.ClassDef, ast.Assign, ast.AugAssign, ast.If, ast.While, ast.For, ast.Return,
    ast.Break, ast.Continue, ast.Pass, ast.Raise, ast.Try, ast.ExceptHandler, ast.Expr, ast.arguments, ast.arg)
EXPRESSIONS = (
    ast.Constant, ast.List, ast.Tuple, ast.Dict, ast.Set, ast.BinOp, ast.UnaryOp, ast.BoolOp, ast.Compare, ast.IfExp,
    ast.Call, ast.keyword, ast.Attribute, ast.Subscript, ast.Slice, ast.ListComp, ast.comprehension, ast.JoinedStr,
    ast.FormattedValue, ast.Lambda, ast.Name, ast.expr_context, ast.boolop, ast.operator, ast.unaryop, ast.cmpop)
OWN_NAMES = (
    "len range enumerate zip min max sum abs sorted reversed int str bool list tuple dict set frozenset isinstance ord "
    "repr any all divmod Exception ValueError TypeError KeyError IndexError LookupError ZeroDivisionError "
    "ArithmeticError OverflowError RuntimeError NotImplementedError AttributeError StopIteration").split()
UNSAID_WORDS = (
    "type typing typing_extensions enum Enum IntEnum StrEnum Flag IntFlag Generic Protocol ABC ABCMeta namedtuple "
    "NamedTuple TypedDict TYPE_CHECKING abstractmethod").split()
METHODS = (
    "append clear copy count endswith extend find get index insert isalnum isalpha isdigit islower isspace isupper "
    "items join keys ljust lower lstrip partition pop remove replace reverse rfind rjust rpartition rsplit rstrip "
    "setdefault split splitlines startswith strip update upper values zfill bit_length").split()


def sources():
    return [(path.name, path.read_text(encoding="utf-8")) for path in sorted(PACKAGE.glob("*.py"))]


def nodes():
    return [(name, node) for name, text in sources() for node in ast.walk(ast.parse(text))]


class Form(unittest.TestCase):
    def test_only_plain_files_lie_in_the_package(self):
        names = sorted(path.name for path in PACKAGE.iterdir() if path.name != "__pycache__")
        self.assertIn("__init__.py", names)
        self.assertIn("contest.py", names)
        for name in names:
            self.assertRegex(name, r"^[a-z0-9_]+\.py$")

    def test_sizes_signs_and_words(self):
        for name, text in sources():
            lines = text.split("\n")
            self.assertLessEqual(len(lines), 400, name)
            for line in lines:
                self.assertLessEqual(len(line), 120, name)
                self.assertRegex(line, r"^[ -~]*$", name)
            for word in re.findall(r"\w+", text):
                self.assertNotIn(word, UNSAID_WORDS, name)
        for name, node in nodes():
            if isinstance(node, ast.FunctionDef):
                self.assertLessEqual(node.end_lineno - node.lineno + 1, 40, node.name)
                self.assertEqual((node.decorator_list, node.args.vararg, node.args.kwarg), ([], None, None), node.name)

    def test_it_imports_nothing(self):
        for name, node in nodes():
            self.assertNotIsInstance(node, (ast.Import, ast.ImportFrom), name)

    def test_statements_and_expressions(self):
        for name, node in nodes():
            self.assertIsInstance(node, STATEMENTS + EXPRESSIONS, name)
            self.assertNotIsInstance(node, (ast.Div, ast.MatMult), name)
            if isinstance(node, ast.Constant):
                self.assertNotIsInstance(node.value, (float, complex, bytes), name)
            if isinstance(node, ast.Assign):
                self.assertEqual(len(node.targets), 1, name)
            if isinstance(node, (ast.For, ast.While)):
                self.assertEqual(node.orelse, [], name)
            if isinstance(node, ast.ListComp):
                self.assertEqual(len(node.generators), 1, name)
                self.assertLessEqual(len(node.generators[0].ifs), 1, name)

    def test_names(self):
        for name, node in nodes():
            if isinstance(node, ast.Name):
                self.assertFalse(node.id.startswith("_"), node.id)
                if hasattr(builtins, node.id):
                    self.assertIn(node.id, OWN_NAMES, name)
                    self.assertIsInstance(node.ctx, ast.Load, node.id)
            if isinstance(node, ast.arg):
                self.assertFalse(hasattr(builtins, node.arg), node.arg)
                self.assertIsNone(node.annotation, node.arg)

    def test_methods_and_keywords(self):
        own = [node.name for name, node in nodes() if isinstance(node, ast.FunctionDef)]
        for name, node in nodes():
            if isinstance(node, ast.Call):
                self.assertEqual(node.keywords, [], name)
                if isinstance(node.func, ast.Attribute):
                    self.assertIn(node.func.attr, METHODS + own, name)

    def test_is_stands_beside_none_true_and_false(self):
        for name, node in nodes():
            if isinstance(node, ast.Compare) and any(isinstance(sign, (ast.Is, ast.IsNot)) for sign in node.ops):
                self.assertEqual(len(node.ops), 1, name)
                self.assertIsInstance(node.comparators[0], ast.Constant, name)

    def test_the_top_holds_defs_and_plain_values_bound_once(self):
        for name, text in sources():
            bound = []
            for node in ast.parse(text).body[1:]:
                self.assertIsInstance(node, (ast.FunctionDef, ast.ClassDef, ast.Assign), name)
                bound.append(node.targets[0].id if isinstance(node, ast.Assign) else node.name)
                if isinstance(node, ast.Assign):
                    self.assertIsInstance(ast.literal_eval(node.value), int, name)
            self.assertEqual(len(bound), len(set(bound)), name)


if __name__ == "__main__":
    unittest.main()

"""The package's files keep to the part of Python that the program is written in.

Only what is easily seen of that is looked at here: signs, sizes, imports, words and forms.
"""

import ast
import re
import unittest
from pathlib import Path

PACKAGE = Path(__file__).resolve().parent.parent / "slotround"
WORDS_OUT = (
    "type typing typing_extensions enum Enum IntEnum StrEnum Flag IntFlag Generic Protocol ABC ABCMeta "
    "namedtuple NamedTuple TypedDict TYPE_CHECKING abstractmethod"
).split()
PARTS_OUT = ("dataclass", "overload", "contextmanager")
NAMES_IN = set(
    "len range enumerate zip min max sum abs sorted reversed int str bool list tuple dict set frozenset "
    "isinstance ord repr any all divmod Exception ValueError TypeError KeyError IndexError LookupError "
    "ZeroDivisionError ArithmeticError OverflowError RuntimeError NotImplementedError AttributeError "
    "StopIteration".split()
)
METHODS_IN = set(
    "append clear copy count endswith extend find get index insert isalnum isalpha isdigit islower isspace "
    "isupper items join keys ljust lower lstrip partition pop remove replace reverse rfind rjust rpartition "
    "rsplit rstrip setdefault split splitlines startswith strip update upper values zfill bit_length".split()
)
FORMS_OUT = (
    ast.With, ast.Match, ast.Delete, ast.Global, ast.Nonlocal, ast.Assert, ast.Yield, ast.YieldFrom,
    ast.AsyncFunctionDef, ast.Await, ast.GeneratorExp, ast.SetComp, ast.DictComp, ast.NamedExpr, ast.Starred,
    ast.Div, ast.AnnAssign, ast.Import,
)


def package_files():
    return sorted(path for path in PACKAGE.rglob("*") if "__pycache__" not in path.parts)


class LanguageTest(unittest.TestCase):
    def each_file(self):
        for path in package_files():
            yield path.name, path.read_text(encoding="utf-8")

    def each_node(self):
        for name, text in self.each_file():
            for node in ast.walk(ast.parse(text)):
                yield f"{name}, line {getattr(node, 'lineno', '?')}", node

    def test_only_plain_files_lie_there(self):
        for path in package_files():
            self.assertRegex(path.name, r"^(__init__|[a-z][a-z0-9_]*)\.py$")

    def test_signs_and_sizes(self):
        for name, text in self.each_file():
            self.assertRegex(text, r"\A[ -~\n]*\Z", name)
            self.assertLessEqual(text.count("\n"), 400, name)
            self.assertLessEqual(max(len(line) for line in text.split("\n")), 120, name)

    def test_words_that_stand_nowhere(self):
        for name, text in self.each_file():
            words = re.findall(r"\w+", text)
            self.assertEqual([word for word in words if word in WORDS_OUT], [], name)
            self.assertEqual([part for part in PARTS_OUT if part in text], [], name)

    def test_functions_are_short_and_plain(self):
        for where, node in self.each_node():
            if isinstance(node, ast.FunctionDef):
                self.assertLessEqual(node.end_lineno - node.lineno + 1, 40, where)
                self.assertEqual(node.decorator_list, [], where)
                self.assertIsNone(node.args.vararg or node.args.kwarg or node.returns, where)
                self.assertEqual(node.args.kwonlyargs + node.args.posonlyargs, [], where)

    def test_forms_that_are_out(self):
        for where, node in self.each_node():
            self.assertNotIsInstance(node, FORMS_OUT, where)
            if isinstance(node, ast.Assign):
                self.assertEqual(len(node.targets), 1, where)
                self.assertNotIsInstance(node.targets[0], (ast.Tuple, ast.List), where)
            if isinstance(node, (ast.For, ast.While)):
                self.assertEqual(node.orelse, [], where)
            if isinstance(node, ast.Constant):
                self.assertNotIsInstance(node.value, (float, bytes, complex), where)

    def test_imports_are_the_package_s_own(self):
        for where, node in self.each_node():
            if isinstance(node, ast.ImportFrom):
                self.assertEqual(node.level, 0, where)
                self.assertRegex(node.module, r"^slotround\.[a-z]+$", where)
                self.assertNotIn("*", [name.name for name in node.names], where)

    def test_python_s_own_names(self):
        builtin = set(dir(__builtins__) if not isinstance(__builtins__, dict) else __builtins__)
        for where, node in self.each_node():
            if isinstance(node, ast.Name):
                self.assertFalse(node.id.startswith("_"), where)
                if node.id in builtin:
                    self.assertIn(node.id, NAMES_IN, where)
                    self.assertIsInstance(node.ctx, ast.Load, where)
            if isinstance(node, ast.arg):
                self.assertNotIn(node.arg, builtin, where)

    def test_methods_of_python_s_own_values(self):
        own = set()
        for where, node in self.each_node():
            if isinstance(node, ast.ClassDef):
                own.update(part.name for part in node.body if isinstance(part, ast.FunctionDef))
        for where, node in self.each_node():
            if isinstance(node, ast.Call) and isinstance(node.func, ast.Attribute):
                self.assertIn(node.func.attr, METHODS_IN | own, where)

    def test_values_of_objects_are_not_called_like_python_s_own(self):
        own = set()
        for value in ("", 0, [], {}, set(), b""):
            own.update(name for name in dir(value))
        for where, node in self.each_node():
            if isinstance(node, ast.Attribute) and isinstance(node.ctx, ast.Store):
                self.assertNotIn(node.attr, own, where)

    def test_names_of_a_file_s_top_are_not_locals_too(self):
        for name, text in self.each_file():
            tree = ast.parse(text)
            imported = {part.name for node in tree.body if isinstance(node, ast.ImportFrom) for part in node.names}
            classes = {node.name for node in tree.body if isinstance(node, ast.ClassDef)}
            bound = {node.arg for node in ast.walk(tree) if isinstance(node, ast.arg)}
            bound |= {node.id for node in ast.walk(tree) if isinstance(node, ast.Name) and isinstance(node.ctx, ast.Store)}
            self.assertEqual(bound & (imported | classes), set(), name)

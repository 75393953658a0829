"""The part of Python that the package keeps to, as far as it can be seen in the files."""

import ast
import pathlib
import re
import unittest

import reserves

FOLDER = pathlib.Path(reserves.__file__).parent
OWN_NAMES = """len range enumerate zip min max sum abs sorted reversed int str bool list tuple dict set frozenset
isinstance ord repr any all divmod Exception ValueError TypeError KeyError IndexError LookupError ZeroDivisionError
ArithmeticError OverflowError RuntimeError NotImplementedError StopIteration""".split()
METHODS = """append clear copy count endswith extend find get index insert isalnum isalpha isdigit islower isspace
isupper items join keys ljust lower lstrip partition pop remove replace reverse rfind rjust rpartition rsplit rstrip
setdefault split splitlines startswith strip update upper values zfill bit_length""".split()
NOWHERE = """register mro elements open input version_info with_traceback add_note format format_map attrgetter
breakpoint builtins compile copyright credits delattr dir eval exec exit gc getattr globals hasattr help id importlib
license locals methodcaller os quit setattr super type vars sys""".split()
WORDS = """type typing typing_extensions enum Enum IntEnum StrEnum Flag IntFlag Generic Protocol ABC ABCMeta namedtuple
NamedTuple TypedDict TYPE_CHECKING abstractmethod""".split()
NODES = (ast.Module, ast.ImportFrom, ast.alias, ast.FunctionDef, ast.arguments, ast.arg, ast.ClassDef, ast.Assign,
         ast.AugAssign, ast.If, ast.While, ast.For, ast.Return, ast.Break, ast.Continue, ast.Pass, ast.Raise, ast.Try,
         ast.ExceptHandler, ast.Expr, ast.Constant, ast.List, ast.Tuple, ast.Dict, ast.BinOp, ast.UnaryOp, ast.BoolOp,
         ast.Compare, ast.IfExp, ast.Call, ast.keyword, ast.Attribute, ast.Subscript, ast.Slice, ast.ListComp,
         ast.comprehension, ast.Lambda, ast.JoinedStr, ast.FormattedValue, ast.Name, ast.expr_context, ast.operator,
         ast.unaryop, ast.boolop, ast.cmpop)


def sources():
    for path in sorted(FOLDER.glob("*.py")):
        text = path.read_text(encoding="utf-8")
        yield path, text, ast.parse(text)


def bound_names(tree):
    """Names that a file binds anywhere: defs, classes, imports, parameters, assignments."""
    for node in ast.walk(tree):
        if isinstance(node, (ast.FunctionDef, ast.ClassDef, ast.alias)):
            yield node.name
        elif isinstance(node, ast.arg):
            yield node.arg
        elif isinstance(node, ast.Name) and isinstance(node.ctx, ast.Store):
            yield node.id


class Language(unittest.TestCase):
    def test_files(self):
        others = [path.name for path in FOLDER.iterdir() if path.name != "__pycache__" and path.suffix != ".py"]
        self.assertEqual(others, [])
        for path, text, tree in sources():
            self.assertRegex(path.name, r"^(__init__|[a-z][a-z0-9_]*)\.py$")
            self.assertNotRegex(text, r"[^ -~\n]", path.name)
            self.assertLessEqual(len(text.splitlines()), 400)
            self.assertLessEqual(max(len(row) for row in text.splitlines()), 120)

    def test_words(self):
        for path, text, tree in sources():
            words = re.findall(r"\w+", text)
            self.assertEqual([word for word in words if word in WORDS], [], path.name)
            self.assertNotRegex(text, "dataclass|overload|contextmanager")

    def test_forms(self):
        for path, text, tree in sources():
            for node in ast.walk(tree):
                where = (path.name, getattr(node, "lineno", 0))
                self.assertIsInstance(node, NODES, where)
                if isinstance(node, ast.FunctionDef):
                    self.assertLessEqual(node.end_lineno - node.lineno + 1, 40, where)
                    self.assertEqual(node.decorator_list, [], where)
                if isinstance(node, ast.Expr) and node != tree.body[0]:
                    self.assertIsInstance(node.value, ast.Call, where)
                if isinstance(node, (ast.For, ast.While)):
                    self.assertEqual(node.orelse, [], where)
                if isinstance(node, ast.Assign):
                    self.assertEqual(len(node.targets), 1, where)
                if isinstance(node, ast.ListComp):
                    self.assertEqual(len(node.generators), 1, where)
                    self.assertLessEqual(len(node.generators[0].ifs), 1, where)
                if isinstance(node, ast.operator):
                    self.assertNotIsInstance(node, (ast.Div, ast.MatMult), where)
                if isinstance(node, ast.Constant):
                    self.assertIn(type(node.value), (int, str, bool, type(None)), where)

    def test_imports_are_the_package_s_own(self):
        drawn = {}
        for path, text, tree in sources():
            for node in ast.walk(tree):
                if isinstance(node, ast.ImportFrom):
                    self.assertEqual(node.level, 0)
                    self.assertRegex(node.module, r"^reserves\.[a-z]+$")
                    drawn.setdefault(path.stem, []).append(node.module.split(".")[1])
        reached = {name: set(others) for name, others in drawn.items()}
        for step in drawn:
            for name in reached:
                for other in list(reached[name]):
                    reached[name] |= reached.get(other, set())
        self.assertEqual([name for name in reached if name in reached[name]], [])

    def test_names(self):
        for path, text, tree in sources():
            bound = list(bound_names(tree))
            for name in bound:
                self.assertRegex(name, r"^([A-Za-z][A-Za-z0-9_]*|__init__)$", path.name)
                self.assertNotIn(name, dir(__builtins__) if not isinstance(__builtins__, dict) else __builtins__)
                self.assertNotIn(name, NOWHERE, path.name)
            for node in ast.walk(tree):
                if isinstance(node, ast.Name):
                    self.assertTrue(node.id in bound or node.id in OWN_NAMES, (path.name, node.lineno, node.id))

    def test_methods_and_values_of_objects(self):
        own_methods, own_values = set(), set()
        for path, text, tree in sources():
            for node in ast.walk(tree):
                if isinstance(node, ast.ClassDef):
                    own_methods |= {part.name for part in node.body if isinstance(part, ast.FunctionDef)}
                if isinstance(node, ast.Attribute) and isinstance(node.ctx, ast.Store):
                    own_values.add(node.attr)
        self.assertEqual(own_methods & own_values, set())
        taken = set(dir(str) + dir(int) + dir(list) + dir(dict) + dir(set) + dir(bytes) + dir(tuple))
        self.assertEqual((own_values | own_methods) & taken, {"__init__"})
        for path, text, tree in sources():
            for node in ast.walk(tree):
                if isinstance(node, ast.Attribute):
                    self.assertIn(node.attr, own_methods | own_values | set(METHODS), (path.name, node.lineno))


if __name__ == "__main__":
    unittest.main()

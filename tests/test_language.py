"""The rules of LANGUAGE.md that can be seen in a file by itself, or in all of them together.

Not all of L1 to L28 are looked at: what hangs on the meaning of the code is left to its reader.
"""

import ast
import builtins
import os
import re
import unittest

FOLDER = os.path.join(os.path.dirname(os.path.dirname(os.path.abspath(__file__))), "sumwires")

STATEMENTS = (
    ast.Assign, ast.AugAssign, ast.If, ast.While, ast.For, ast.Return, ast.Break, ast.Continue, ast.Pass, ast.Raise,
    ast.Try, ast.Expr, ast.FunctionDef, ast.ClassDef, ast.ImportFrom,
)
EXPRESSIONS = (
    ast.Constant, ast.List, ast.Tuple, ast.Dict, ast.Set, ast.BinOp, ast.UnaryOp, ast.BoolOp, ast.Compare, ast.IfExp,
    ast.Call, ast.Attribute, ast.Subscript, ast.Slice, ast.ListComp, ast.Name, ast.Lambda, ast.JoinedStr,
    ast.FormattedValue,
)
OWN_NAMES = set("""len range enumerate zip min max sum abs sorted reversed int str bool list tuple dict set frozenset
    isinstance ord repr any all divmod Exception ValueError TypeError KeyError IndexError LookupError
    ZeroDivisionError ArithmeticError OverflowError RuntimeError NotImplementedError AttributeError
    StopIteration""".split())
OWN_METHODS = set("""append clear copy count endswith extend find get index insert isalnum isalpha isdigit islower
    isspace isupper items join keys ljust lower lstrip partition pop remove replace reverse rfind rjust rpartition
    rsplit rstrip setdefault split splitlines startswith strip update upper values zfill bit_length""".split())
DOUBLE_METHODS = ("__init__", "__eq__", "__repr__", "__str__", "__len__")
WORDS_OUT = set("""type typing typing_extensions enum Enum IntEnum StrEnum Flag IntFlag Generic Protocol ABC ABCMeta
    namedtuple NamedTuple TypedDict TYPE_CHECKING abstractmethod""".split())
PARTS_OUT = ("dataclass", "overload", "contextmanager")
NAMES_OUT = set("""register mro elements open input version_info with_traceback add_note""".split())


def files():
    return sorted(os.listdir(FOLDER))


def source(name):
    with open(os.path.join(FOLDER, name), encoding="utf-8", newline="") as file:
        return file.read()


def trees():
    return {name: ast.parse(source(name)) for name in files() if name.endswith(".py")}


def nodes(kind):
    return [(name, node) for name, tree in trees().items() for node in ast.walk(tree) if isinstance(node, kind)]


def docstrings(tree):
    return [tree.body[0]] if tree.body and ast.get_docstring(tree) is not None else []


def parameters(node):
    return [parameter.arg for parameter in node.args.args]


class FilesTest(unittest.TestCase):
    def test_nothing_but_plain_files(self):
        found = [name for name in files() if name != "__pycache__"]
        self.assertIn("__init__.py", found)
        for name in found:
            self.assertRegex(name, r"\A([a-z][a-z0-9_]*|__init__|__main__)\.py\Z")
            self.assertNotIn(name[:-3], dir(builtins))
            self.assertNotRegex(name, r"\A(test|site|conftest|sitecustomize|usercustomize)")

    def test_signs_and_sizes(self):
        for name in trees():
            text = source(name)
            self.assertRegex(text, r"\A[\n -~]*\Z")
            self.assertLessEqual(text.count("\n"), 400)
            self.assertLessEqual(max([len(row) for row in text.split("\n")]), 120)

    def test_words_that_stand_nowhere(self):
        for name in trees():
            text = source(name)
            self.assertEqual(WORDS_OUT & set(re.findall(r"\w+", text)), set(), name)
            for part in PARTS_OUT:
                self.assertNotIn(part, text)

    def test_imports_go_one_way(self):
        drawn = {name: [] for name in trees()}
        for name, node in nodes((ast.Import, ast.ImportFrom)):
            self.assertIsInstance(node, ast.ImportFrom)
            self.assertEqual(node.level, 0)
            self.assertRegex(node.module, r"\Asumwires\.[a-z]+\Z")
            target = node.module.split(".")[1] + ".py"
            defined = [made.name for made in trees()[target].body if isinstance(made, (ast.FunctionDef, ast.ClassDef))]
            defined += [made.targets[0].id for made in trees()[target].body if isinstance(made, ast.Assign)]
            for alias in node.names:
                self.assertIn(alias.name, defined)
            drawn[name] += [target, "__init__.py"]
        while drawn:
            free = [name for name in drawn if not [other for other in drawn[name] if other in drawn]]
            self.assertNotEqual(free, [], drawn)
            for name in free:
                drawn.pop(name)


class CodeTest(unittest.TestCase):
    def test_top_of_a_module(self):
        for name, tree in trees().items():
            for node in tree.body:
                if node not in docstrings(tree):
                    self.assertIsInstance(node, (ast.ImportFrom, ast.FunctionDef, ast.ClassDef, ast.Assign), name)
                if isinstance(node, ast.Assign):
                    for part in ast.walk(node.value):
                        self.assertNotIsInstance(part, (ast.Call, ast.BinOp, ast.Lambda, ast.ListComp, ast.Set), name)

    def test_statements_and_expressions(self):
        for name, tree in trees().items():
            for node in ast.walk(tree):
                where = (name, getattr(node, "lineno", 0))
                if isinstance(node, ast.stmt):
                    self.assertIsInstance(node, STATEMENTS, where)
                if isinstance(node, ast.expr):
                    self.assertIsInstance(node, EXPRESSIONS, where)
                if isinstance(node, ast.Expr) and node not in docstrings(tree):
                    self.assertIsInstance(node.value, ast.Call, where)
                if isinstance(node, (ast.For, ast.While)):
                    self.assertEqual(node.orelse, [], where)
                if isinstance(node, ast.Assign):
                    self.assertEqual(len(node.targets), 1, where)
                if isinstance(node, ast.Constant):
                    self.assertIsInstance(node.value, (int, str, type(None)), where)
                self.assertNotIsInstance(node, (ast.Div, ast.MatMult, ast.Starred), where)

    def test_functions(self):
        for name, node in nodes((ast.FunctionDef, ast.Lambda)):
            given = node.args
            self.assertEqual([given.vararg, given.kwarg, given.kwonlyargs, given.posonlyargs], [None, None, [], []])
            for parameter in parameters(node):
                self.assertNotIn(parameter, dir(builtins), name)
            if isinstance(node, ast.FunctionDef):
                self.assertEqual(node.decorator_list, [])
                self.assertLessEqual(node.end_lineno - node.lineno + 1, 40, (name, node.name))

    def test_classes(self):
        for name, node in nodes(ast.ClassDef):
            self.assertEqual((node.decorator_list, node.keywords), ([], []), name)
            self.assertLessEqual(len(node.bases), 1)
            methods = [part.name for part in node.body if isinstance(part, ast.FunctionDef)]
            self.assertEqual(len(methods), len(set(methods)))
            for part in node.body:
                self.assertIsInstance(part, (ast.FunctionDef, ast.Pass))

    def test_names(self):
        for name, node in nodes((ast.Name, ast.Attribute, ast.FunctionDef, ast.ClassDef)):
            word = {ast.Name: "id", ast.Attribute: "attr"}.get(type(node), "name")
            word = getattr(node, word)
            self.assertNotIn(word, NAMES_OUT, name)
            self.assertNotIn(word, ("format", "format_map"), name)
            if word not in DOUBLE_METHODS:
                self.assertRegex(word, r"\A[A-Za-z][A-Za-z0-9_]*\Z", name)

    def test_names_of_pythons_own(self):
        for name, node in nodes(ast.Name):
            if node.id in dir(builtins):
                self.assertIn(node.id, OWN_NAMES, (name, node.lineno))
                self.assertIsInstance(node.ctx, ast.Load, (name, node.lineno))

    def test_methods_and_values(self):
        methods = {part.name for _, node in nodes(ast.ClassDef) for part in node.body
                   if isinstance(part, ast.FunctionDef)}
        values = {node.attr for _, node in nodes(ast.Attribute) if isinstance(node.ctx, ast.Store)}
        self.assertEqual(methods & values, set())
        for name, node in nodes(ast.Call):
            if isinstance(node.func, ast.Attribute):
                self.assertIn(node.func.attr, OWN_METHODS | methods, (name, node.lineno))

    def test_powers_have_written_exponents(self):
        for name, node in nodes(ast.BinOp):
            if isinstance(node.op, ast.Pow):
                self.assertIsInstance(node.right, ast.Constant, (name, node.lineno))

    def test_is_stands_beside_none_true_and_false(self):
        for name, node in nodes(ast.Compare):
            for operator, right in zip(node.ops, node.comparators):
                if isinstance(operator, (ast.Is, ast.IsNot)):
                    self.assertIn(ast.unparse(right), ("None", "True", "False"), (name, node.lineno))

    def test_comprehensions_are_plain(self):
        for name, node in nodes(ast.ListComp):
            self.assertEqual(len(node.generators), 1, (name, node.lineno))
            self.assertLessEqual(len(node.generators[0].ifs), 1, (name, node.lineno))


if __name__ == "__main__":
    unittest.main()

"""The rules of LANGUAGE.md that can be seen in a file by itself, or in all of them together.

Not all of L1 to L28 are looked at: what hangs on the meaning of the code is left to its reader.
"""

import ast
import builtins
import os
import re
import unittest

FOLDER = os.path.join(os.path.dirname(os.path.dirname(os.path.abspath(__file__))), "sumwires")

STATEMENTS = (
    ast.Assign, ast.AugAssign, ast.If, ast.While, ast.For, ast.Return, ast.Break, ast.Continue, ast.Pass, ast.Raise,
    ast.Try, ast.Expr, ast.FunctionDef, ast.ClassDef, ast.ImportFrom,
)
EXPRESSIONS = (
    ast.Constant, ast.List, ast.Tuple, ast.Dict, ast.Set, ast.BinOp, ast.UnaryOp, ast.BoolOp, ast.Compare, ast.IfExp,
    ast.Call, ast.Attribute, ast.Subscript, ast.Slice, ast.ListComp, ast.Name, ast.Lambda, ast.JoinedStr,
    ast.FormattedValue,
)
OWN_NAMES = set("""len range enumerate zip min max sum abs sorted reversed int str bool list tuple dict set frozenset
    isinstance ord repr any all divmod Exception ValueError TypeError KeyError IndexError LookupError
    ZeroDivisionError ArithmeticError OverflowError RuntimeError NotImplementedError AttributeError
    StopIteration""".split())
OWN_METHODS = set("""append clear copy count endswith extend find get index insert isalnum isalpha isdigit islower
    isspace isupper items join keys ljust lower lstrip partition pop remove replace reverse rfind rjust rpartition
    rsplit rstrip setdefault split splitlines startswith strip update upper values zfill bit_length""".split())
DOUBLE_METHODS = ("__init__", "__eq__", "__repr__", "__str__", "__len__")
WORDS_OUT = set("""type typing typing_extensions enum Enum IntEnum StrEnum Flag IntFlag Generic Protocol ABC ABCMeta
    namedtuple NamedTuple TypedDict TYPE_CHECKING abstractmethod""".split())
PARTS_OUT = ("dataclass", "overload", "contextmanager")
NAMES_OUT = set("""register mro elements open input version_info with_traceback add_note""".split())
PLAIN_NAMES_OUT = set("""attrgetter breakpoint builtins compile copyright credits delattr dir eval exec exit gc getattr
    globals hasattr help id importlib license locals methodcaller os quit setattr super type vars sys""".split())
WALKED = ("zip", "enumerate", "reversed", "range", "items", "keys", "values")
WALKERS = ("list", "tuple", "dict", "sorted", "sum", "any", "all", "enumerate", "zip", "min", "max")
KEYWORDS = {"sorted": ("key", "reverse"), "min": ("key", "default"), "max": ("key", "default"), "sum": ("start",),
            "enumerate": ("start",), "zip": ("strict",)}
VALUES_OUT = set("""items keys values pop update append clear extend insert remove reverse setdefault sort args encode
    format""".split())
VALUES_IN = set("count index title find get join lower upper split strip copy add".split())


def files():
    return sorted(os.listdir(FOLDER))


def source(name):
    with open(os.path.join(FOLDER, name), encoding="utf-8", newline="") as file:
        return file.read()


def trees():
    return {name: ast.parse(source(name)) for name in files() if name.endswith(".py")}


def nodes(kind):
    return [(name, node) for name, tree in trees().items() for node in ast.walk(tree) if isinstance(node, kind)]


def docstrings(tree):
    return [tree.body[0]] if tree.body and ast.get_docstring(tree) is not None else []


def parameters(node):
    return [parameter.arg for parameter in node.args.args]


class FilesTest(unittest.TestCase):
    def test_nothing_but_plain_files(self):
        found = [name for name in files() if name != "__pycache__"]
        self.assertIn("__init__.py", found)
        for name in found:
            self.assertRegex(name, r"\A([a-z][a-z0-9_]*|__init__|__main__)\.py\Z")
            self.assertNotIn(name[:-3], dir(builtins))
            self.assertNotRegex(name, r"\A(test|site|conftest|sitecustomize|usercustomize)")

    def test_signs_and_sizes(self):
        for name in trees():
            text = source(name)
            self.assertRegex(text, r"\A[\n -~]*\Z")
            self.assertLessEqual(text.count("\n"), 400)
            self.assertLessEqual(max([len(row) for row in text.split("\n")]), 120)

    def test_words_that_stand_nowhere(self):
        for name in trees():
            text = source(name)
            self.assertEqual(WORDS_OUT & set(re.findall(r"\w+", text)), set(), name)
            for part in PARTS_OUT:
                self.assertNotIn(part, text)

    def test_imports_go_one_way(self):
        drawn = {name: [] for name in trees()}
        for name, node in nodes((ast.Import, ast.ImportFrom)):
            self.assertIsInstance(node, ast.ImportFrom)
            self.assertEqual(node.level, 0)
            self.assertRegex(node.module, r"\Asumwires\.[a-z]+\Z")
            target = node.module.split(".")[1] + ".py"
            defined = [made.name for made in trees()[target].body if isinstance(made, (ast.FunctionDef, ast.ClassDef))]
            defined += [made.targets[0].id for made in trees()[target].body if isinstance(made, ast.Assign)]
            for alias in node.names:
                self.assertIn(alias.name, defined)
            drawn[name] += [target, "__init__.py"]
        while drawn:
            free = [name for name in drawn if not [other for other in drawn[name] if other in drawn]]
            self.assertNotEqual(free, [], drawn)
            for name in free:
                drawn.pop(name)


class CodeTest(unittest.TestCase):
    def test_top_of_a_module(self):
        for name, tree in trees().items():
            for node in tree.body:
                if node not in docstrings(tree):
                    self.assertIsInstance(node, (ast.ImportFrom, ast.FunctionDef, ast.ClassDef, ast.Assign), name)
                if isinstance(node, ast.Assign):
                    for part in ast.walk(node.value):
                        self.assertNotIsInstance(part, (ast.Call, ast.BinOp, ast.Lambda, ast.ListComp, ast.Set), name)

    def test_statements_and_expressions(self):
        for name, tree in trees().items():
            for node in ast.walk(tree):
                where = (name, getattr(node, "lineno", 0))
                if isinstance(node, ast.stmt):
                    self.assertIsInstance(node, STATEMENTS, where)
                if isinstance(node, ast.expr):
                    self.assertIsInstance(node, EXPRESSIONS, where)
                if isinstance(node, ast.Expr) and node not in docstrings(tree):
                    self.assertIsInstance(node.value, ast.Call, where)
                if isinstance(node, (ast.For, ast.While)):
                    self.assertEqual(node.orelse, [], where)
                if isinstance(node, ast.Assign):
                    self.assertEqual(len(node.targets), 1, where)
                if isinstance(node, ast.Constant):
                    self.assertIsInstance(node.value, (int, str, type(None)), where)
                self.assertNotIsInstance(node, (ast.Div, ast.MatMult, ast.Starred), where)

    def test_functions(self):
        for name, node in nodes((ast.FunctionDef, ast.Lambda)):
            given = node.args
            self.assertEqual([given.vararg, given.kwarg, given.kwonlyargs, given.posonlyargs], [None, None, [], []])
            for parameter in parameters(node):
                self.assertNotIn(parameter, dir(builtins), name)
            if isinstance(node, ast.FunctionDef):
                self.assertEqual(node.decorator_list, [])
                self.assertLessEqual(node.end_lineno - node.lineno + 1, 40, (name, node.name))

    def test_classes(self):
        for name, node in nodes(ast.ClassDef):
            self.assertEqual((node.decorator_list, node.keywords), ([], []), name)
            self.assertLessEqual(len(node.bases), 1)
            methods = [part.name for part in node.body if isinstance(part, ast.FunctionDef)]
            self.assertEqual(len(methods), len(set(methods)))
            for part in node.body:
                self.assertIsInstance(part, (ast.FunctionDef, ast.Pass))

    def test_names(self):
        for name, node in nodes((ast.Name, ast.Attribute, ast.FunctionDef, ast.ClassDef)):
            word = {ast.Name: "id", ast.Attribute: "attr"}.get(type(node), "name")
            word = getattr(node, word)
            self.assertNotIn(word, NAMES_OUT, name)
            self.assertNotIn(word, ("format", "format_map"), name)
            if word not in DOUBLE_METHODS:
                self.assertRegex(word, r"\A[A-Za-z][A-Za-z0-9_]*\Z", name)

    def test_names_of_pythons_own(self):
        for name, node in nodes(ast.Name):
            if node.id in dir(builtins):
                self.assertIn(node.id, OWN_NAMES, (name, node.lineno))
                self.assertIsInstance(node.ctx, ast.Load, (name, node.lineno))

    def test_methods_and_values(self):
        methods = {part.name for _, node in nodes(ast.ClassDef) for part in node.body
                   if isinstance(part, ast.FunctionDef)}
        values = {node.attr for _, node in nodes(ast.Attribute) if isinstance(node.ctx, ast.Store)}
        self.assertEqual(methods & values, set())
        for name, node in nodes(ast.Call):
            if isinstance(node.func, ast.Attribute):
                self.assertIn(node.func.attr, OWN_METHODS | methods, (name, node.lineno))

    def test_powers_have_written_exponents(self):
        for name, node in nodes(ast.BinOp):
            if isinstance(node.op, ast.Pow):
                self.assertIsInstance(node.right, ast.Constant, (name, node.lineno))

    def test_is_stands_beside_none_true_and_false(self):
        for name, node in nodes(ast.Compare):
            for operator, right in zip(node.ops, node.comparators):
                if isinstance(operator, (ast.Is, ast.IsNot)):
                    self.assertIn(ast.unparse(right), ("None", "True", "False"), (name, node.lineno))

    def test_comprehensions_are_plain(self):
        for name, node in nodes(ast.ListComp):
            self.assertEqual(len(node.generators), 1, (name, node.lineno))
            self.assertLessEqual(len(node.generators[0].ifs), 1, (name, node.lineno))

    def test_names_at_the_top_are_bound_once(self):
        for name, tree in trees().items():
            bound = [alias.name for node in tree.body if isinstance(node, ast.ImportFrom) for alias in node.names]
            bound += [node.name for node in tree.body if isinstance(node, (ast.FunctionDef, ast.ClassDef))]
            bound += [target.id for node in tree.body if isinstance(node, ast.Assign) for target in node.targets]
            self.assertEqual(len(bound), len(set(bound)), name)

    def test_lists_and_dicts_at_the_top_hold_none(self):
        for name, tree in trees().items():
            for node in tree.body:
                if isinstance(node, ast.Assign):
                    inner = [part for part in ast.walk(node.value) if isinstance(part, (ast.List, ast.Dict))]
                    self.assertLessEqual(len(inner), 1, (name, node.lineno))

    def test_locals_have_names_of_their_own(self):
        for name, tree in trees().items():
            taken = {alias.name for node in tree.body if isinstance(node, ast.ImportFrom) for alias in node.names}
            taken |= {node.name for node in tree.body if isinstance(node, (ast.ClassDef, ast.FunctionDef))}
            taken |= set(dir(builtins))
            for made in [node for node in ast.walk(tree) if isinstance(node, (ast.FunctionDef, ast.Lambda))]:
                words = set(parameters(made))
                words |= {part.id for part in ast.walk(made)
                          if isinstance(part, ast.Name) and isinstance(part.ctx, ast.Store)}
                self.assertEqual(words & taken, set(), (name, made.lineno))

    def test_names_that_are_not_used(self):
        for name, node in nodes(ast.Name):
            self.assertNotIn(node.id, PLAIN_NAMES_OUT, (name, node.lineno))
        for name, node in nodes(ast.Attribute):
            self.assertNotRegex(node.attr, r"\A(f|tb|co|gi|cr|ag)_", (name, node.lineno))

    def test_walked_at_once(self):
        for name, tree in trees().items():
            at_once = set()
            for node in ast.walk(tree):
                if isinstance(node, (ast.For, ast.comprehension)):
                    at_once.add(node.iter)
                if isinstance(node, ast.Call) and isinstance(node.func, ast.Name) and node.func.id in WALKERS:
                    at_once |= set(node.args if node.func.id == "zip" else node.args[:1])
            for node in ast.walk(tree):
                if isinstance(node, ast.Call):
                    word = getattr(node.func, "id", getattr(node.func, "attr", ""))
                    if word in WALKED:
                        self.assertIn(node, at_once, (name, node.lineno))

    def test_what_is_walked_is_not_changed(self):
        for name, node in nodes(ast.For):
            walked = {part.id for part in ast.walk(node.iter) if isinstance(part, ast.Name)}
            for part in [inner for row in node.body for inner in ast.walk(row)]:
                if isinstance(part, ast.Call) and isinstance(part.func, ast.Attribute):
                    if part.func.attr in ("append", "extend", "insert", "pop", "remove", "clear", "update", "reverse"):
                        self.assertNotIn(getattr(part.func.value, "id", None), walked, (name, part.lineno))
                if isinstance(part, ast.Subscript) and isinstance(part.ctx, ast.Store):
                    self.assertNotIn(getattr(part.value, "id", None), walked, (name, part.lineno))

    def test_no_sets(self):
        for name, node in nodes((ast.Set, ast.Name)):
            self.assertNotIn(getattr(node, "id", "set"), ("set", "frozenset"), (name, node.lineno))

    def test_keywords(self):
        for name, node in nodes(ast.Call):
            if node.keywords and isinstance(node.func, ast.Name) and node.func.id in dir(builtins):
                for keyword in node.keywords:
                    self.assertIn(keyword.arg, KEYWORDS.get(node.func.id, ()), (name, node.lineno))

    def test_methods_are_called_where_they_stand(self):
        methods = {part.name for _, node in nodes(ast.ClassDef) for part in node.body
                   if isinstance(part, ast.FunctionDef)}
        for name, tree in trees().items():
            called = {node.func for node in ast.walk(tree) if isinstance(node, ast.Call)}
            for node in ast.walk(tree):
                if isinstance(node, ast.Attribute) and node.attr in methods | OWN_METHODS - VALUES_IN:
                    self.assertIn(node, called, (name, node.lineno))

    def test_own_methods_and_values_have_free_names(self):
        python = {word for thing in ("", 0, [], {}, set(), b"", ()) for word in dir(thing)}
        for name, node in nodes(ast.ClassDef):
            for part in node.body:
                if isinstance(part, ast.FunctionDef) and part.name not in DOUBLE_METHODS:
                    self.assertNotIn(part.name, python - OWN_METHODS - {"add", "discard"}, name)
        for name, node in nodes(ast.Attribute):
            if isinstance(node.ctx, ast.Store):
                self.assertNotIn(node.attr, (python - VALUES_IN) | VALUES_OUT, (name, node.lineno))

    def test_errors_are_raised_on_the_spot_and_taken_by_name(self):
        for name, node in nodes(ast.Raise):
            self.assertIsInstance(node.exc, ast.Call, (name, node.lineno))
        for name, node in nodes(ast.ExceptHandler):
            self.assertIsInstance(node.type, ast.Name, (name, node.lineno))
            self.assertNotIn(node.type.id, ("Exception", "TypeError", "ValueError", "LookupError", "IndexError"))

    def test_no_annotations(self):
        for name, node in nodes(ast.FunctionDef):
            self.assertIsNone(node.returns, (name, node.lineno))
            self.assertEqual([one.annotation for one in node.args.args if one.annotation], [], (name, node.lineno))

    def test_texts(self):
        for name, node in nodes(ast.Constant):
            if isinstance(node.value, str):
                self.assertNotIn("%", node.value, (name, node.lineno))
                self.assertRegex(node.value, r"\A[\n\t -~]*\Z", (name, node.lineno))
        for name in trees():
            self.assertNotRegex(source(name), r"\\[^nt\\'\"]", name)

    def test_init_gives_back_nothing(self):
        for name, node in nodes(ast.FunctionDef):
            if node.name == "__init__":
                self.assertEqual([part for part in ast.walk(node) if isinstance(part, ast.Return)], [], name)


if __name__ == "__main__":
    unittest.main()

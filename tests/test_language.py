"""The package's files keep to the part of Python that's told for them.

Not every rule can be seen by a program; those that are easily broken are looked at here.
"""

import ast
import builtins
import pathlib
import re
import unittest

PACKAGE = pathlib.Path(__file__).resolve().parent.parent / "deckodds"
OWN = ("len range enumerate zip min max sum abs sorted reversed int str bool list tuple dict set frozenset isinstance "
       "ord repr any all divmod Exception ValueError TypeError KeyError IndexError LookupError ZeroDivisionError "
       "ArithmeticError OverflowError RuntimeError NotImplementedError AttributeError StopIteration").split()
METHODS = ("append clear copy count endswith extend find get index insert isalnum isalpha isdigit islower isspace isupper "
           "items join keys ljust lower lstrip partition pop remove replace reverse rfind rjust rpartition rsplit rstrip "
           "setdefault split splitlines startswith strip update upper values zfill bit_length").split()
WORDS = ("type typing typing_extensions enum Enum IntEnum StrEnum Flag IntFlag Generic Protocol ABC ABCMeta namedtuple "
         "NamedTuple TypedDict TYPE_CHECKING abstractmethod").split()
STATEMENTS = (ast.FunctionDef, ast.ClassDef, ast.ImportFrom, ast.Assign, ast.AugAssign, ast.If, ast.While, ast.For,
              ast.Return, ast.Break, ast.Continue, ast.Pass, ast.Raise, ast.Try, ast.Expr)
EXPRESSIONS = (ast.Constant, ast.Name, ast.Attribute, ast.Subscript, ast.Slice, ast.Call, ast.BinOp, ast.UnaryOp,
               ast.BoolOp, ast.Compare, ast.IfExp, ast.List, ast.Tuple, ast.Dict, ast.ListComp, ast.Lambda,
               ast.JoinedStr, ast.FormattedValue)


def faults(source):
    """What a file's text has that the rules don't allow, in words."""
    found = []
    lines = source.split("\n")
    for number, line in enumerate(lines, start=1):
        if len(line) > 120 or not re.fullmatch("[ -~]*", line):
            found.append(f"L10 or L14 in line {number}")
    if len(lines) > 401:
        found.append("L10 the file is too long")
    for word in WORDS:
        if re.search(rf"\b{word}\b", source):
            found.append(f"L17 {word}")
    tree = ast.parse(source)
    for node in ast.walk(tree):
        for fault in node_faults(node):
            found.append(f"{fault} in line {getattr(node, 'lineno', 0)}")
    return found + top_faults(tree) + attribute_faults(tree)


def node_faults(node):
    if isinstance(node, ast.stmt):
        yield from statement_faults(node)
    if isinstance(node, ast.expr) and not isinstance(node, EXPRESSIONS):
        yield "L7 " + ast.dump(node)[:20]
    if isinstance(node, ast.Div):
        yield "L7 /"
    if isinstance(node, ast.Constant) and not (node.value is None or isinstance(node.value, (bool, int, str))):
        yield "L7 a value"
    if isinstance(node, ast.Constant) and isinstance(node.value, str) and "%" in node.value:
        yield "L27 a sign in a text"
    if isinstance(node, ast.FormattedValue) and not (isinstance(node.value, ast.Name) and node.format_spec is None):
        yield "L7 f-string"
    if isinstance(node, ast.ListComp) and (len(node.generators) > 1 or len(node.generators[0].ifs) > 1):
        yield "L7 comprehension"
    if isinstance(node, ast.Pow):
        yield "L27 power"
    if isinstance(node, ast.Compare):
        for operator, right in zip(node.ops, node.comparators):
            if isinstance(operator, (ast.Is, ast.IsNot)) and not isinstance(right, ast.Constant):
                yield "L20 is"
    if isinstance(node, ast.arguments) and (node.vararg or node.kwarg or node.kwonlyargs or node.posonlyargs):
        yield "L4 parameters"
    if isinstance(node, (ast.FunctionDef, ast.Lambda)) and not all(is_plain(value) for value in node.args.defaults):
        yield "L4 a default"
    if isinstance(node, ast.arg):
        if node.annotation or hasattr(builtins, node.arg) or not re.fullmatch("[A-Za-z][A-Za-z0-9_]*", node.arg):
            yield "L12, L15 or L21 " + node.arg
    if isinstance(node, ast.Name):
        if isinstance(node.ctx, ast.Load) and hasattr(builtins, node.id) and node.id not in OWN:
            yield "L8 " + node.id
        if isinstance(node.ctx, ast.Store) and (hasattr(builtins, node.id) or node.id.startswith("_")):
            yield "L12 or L15 " + node.id


def is_plain(node):
    """Whether it's a whole number, a text, True, False or None, as a default must be."""
    if isinstance(node, ast.UnaryOp) and isinstance(node.op, ast.USub):
        return isinstance(node.operand, ast.Constant) and type(node.operand.value) is int
    return isinstance(node, ast.Constant) and (node.value is None or type(node.value) in (int, str, bool))


def statement_faults(node):
    if not isinstance(node, STATEMENTS):
        yield "L6 " + ast.dump(node)[:20]
    if isinstance(node, ast.ImportFrom) and not (node.module.startswith("deckodds.") and node.level == 0):
        yield "L2 import"
    if isinstance(node, ast.Assign) and (len(node.targets) > 1 or isinstance(node.targets[0], (ast.Tuple, ast.List))):
        yield "L6 targets"
    if isinstance(node, (ast.For, ast.While)) and node.orelse:
        yield "L6 else behind a loop"
    if isinstance(node, ast.Try) and (node.finalbody or not all(handler.type for handler in node.handlers)):
        yield "L6 try"
    if isinstance(node, ast.FunctionDef):
        if node.end_lineno - node.lineno >= 40 or node.decorator_list or node.returns:
            yield "L4, L10 or L21 " + node.name
        if node.name.startswith("_") and node.name != "__init__":
            yield "L12 " + node.name
    if isinstance(node, ast.ClassDef):
        if node.decorator_list or len(node.bases) > 1 or not all(isinstance(part, ast.FunctionDef) for part in node.body):
            yield "L5 " + node.name


def top_faults(tree):
    found = []
    bound = []
    for place, node in enumerate(tree.body):
        docstring = place == 0 and isinstance(node, ast.Expr) and isinstance(node.value, ast.Constant)
        if not docstring and not isinstance(node, (ast.ImportFrom, ast.Assign, ast.FunctionDef, ast.ClassDef)):
            found.append(f"L3 in line {node.lineno}")
        if isinstance(node, (ast.FunctionDef, ast.ClassDef)):
            bound.append(node.name)
        if isinstance(node, ast.ImportFrom):
            bound.extend(name.name for name in node.names)
        if isinstance(node, ast.Assign):
            bound.append(node.targets[0].id)
    if len(bound) != len(set(bound)):
        found.append("L15 a name is bound twice")
    locals_of_file = [node.id for node in ast.walk(tree) if isinstance(node, ast.Name) and isinstance(node.ctx, ast.Store)]
    tops = [node.targets[0].id for node in tree.body if isinstance(node, ast.Assign)]
    locals_of_file += [node.arg for node in ast.walk(tree) if isinstance(node, ast.arg)]
    for name in locals_of_file:
        if name in bound and name not in tops:
            found.append(f"L15 {name}")
    return found


def attribute_faults(tree):
    own = [node.name for node in ast.walk(tree) if isinstance(node, ast.FunctionDef)]
    return [f"L25 {node.func.attr}" for node in ast.walk(tree)
            if isinstance(node, ast.Call) and isinstance(node.func, ast.Attribute)
            and node.func.attr not in METHODS + own + own_methods()]


def trees():
    return [ast.parse(path.read_text("ascii")) for path in sorted(PACKAGE.glob("*.py"))]


def own_methods():
    return [part.name for tree in trees() for node in tree.body if isinstance(node, ast.ClassDef) for part in node.body]


def own_values():
    return [node.attr for tree in trees() for node in ast.walk(tree)
            if isinstance(node, ast.Attribute) and isinstance(node.ctx, ast.Store)]


class LanguageTest(unittest.TestCase):
    def test_files(self):
        names = sorted(path.name for path in PACKAGE.iterdir() if path.name != "__pycache__")
        self.assertIn("__init__.py", names)
        for name in names:
            self.assertRegex(name, r"\A([a-z][a-z0-9_]*|__init__)\.py\Z")

    def test_package(self):
        for path in sorted(PACKAGE.glob("*.py")):
            self.assertEqual(faults(path.read_text("ascii")), [], path.name)

    def test_methods_and_values_have_names_of_their_own(self):
        self.assertEqual(sorted(set(own_methods()) & set(own_values())), [])
        taken = [name for value in ("", 0, [], {}, set(), b"") for name in dir(value)]
        self.assertEqual(sorted((set(own_methods()) - {"__init__"} | set(own_values())) & set(taken)), [])

    def test_no_two_files_draw_from_one_another(self):
        draws = {}
        for path in sorted(PACKAGE.glob("*.py")):
            tree = ast.parse(path.read_text("ascii"))
            draws["deckodds." + path.stem] = [node.module for node in tree.body if isinstance(node, ast.ImportFrom)]
        while draws:
            free = [name for name, drawn in draws.items() if not any(other in draws for other in drawn)]
            self.assertTrue(free, draws)
            draws = {name: drawn for name, drawn in draws.items() if name not in free}

    def test_faults_are_found(self):
        for source in ("import os\n", "x = 1 / 2\n", "def f(*a):\n    pass\n", "x = {n for n in y}\n", "print(1)\n",
                       "def f():\n    a, b = 1, 2\n", "def f(id):\n    pass\n", "x = 1\nx = 2\n", "x = 1.5\n",
                       "def f(x):\n    return f'{x.y}'\n", "def f(x):\n    x.sort()\n", "# a type\n", "x = b''\n",
                       "from .desk import x\n", "def f():\n    with g():\n        pass\n", "x = '\t'  # \u00e9\n"):
            self.assertNotEqual(faults(source), [], source)

    def test_defaults_that_are_no_plain_values_are_found(self):
        for default in ("()", "[]", "{}", "(1, 2)", "[1]", "{1: 2}", "((), 0)", "tuple()", "list()", "1 + 1", "len", "LIMIT",
                        "-LIMIT", "f'a'", "lambda: 1", "1 if True else 2", "-True", "1.5", "..."):
            for form in ("def f(x={}):\n    pass\n", "def f(x, y=1, z={}):\n    pass\n",
                         "class C:\n    def f(self, x={}):\n        pass\n",
                         "class C:\n    def __init__(self, x, y={}, z=0):\n        pass\n",
                         "def f():\n    def g(x={}):\n        pass\n    g()\n",
                         "def f():\n    return lambda x={}: x\n"):
                source = form.replace("{}", default)
                self.assertRegex(" ".join(faults(source)), "L4 a default", source)

    def test_plain_defaults_are_no_faults(self):
        for default in ("0", "12", "-1", "'a'", "''", "True", "False", "None"):
            for form in ("def f(x, y={}):\n    return y\n", "class C:\n    def f(self, x={}):\n        pass\n"):
                source = form.replace("{}", default)
                self.assertEqual(faults(source), [], source)


if __name__ == "__main__":
    unittest.main()

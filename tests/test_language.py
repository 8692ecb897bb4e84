"""The rules of shared/LANGUAGE.md that can be seen in a file's text, rule by rule; the others are for a reader."""

import ast
import builtins
import pathlib
import re
import unittest

PACKAGE = pathlib.Path(__file__).resolve().parent.parent / "rollcall"

NODES = (
    ast.Module, ast.FunctionDef, ast.ClassDef, ast.ImportFrom, ast.alias, ast.arguments, ast.arg, ast.Lambda,
    ast.Assign, ast.AugAssign, ast.If, ast.While, ast.For, ast.Return, ast.Break, ast.Continue, ast.Pass, ast.Raise,
    ast.Try, ast.ExceptHandler, ast.Expr, ast.Call, ast.keyword, ast.Attribute, ast.Subscript, ast.Slice, ast.Name,
    ast.Constant, ast.List, ast.Tuple, ast.Dict, ast.Set, ast.ListComp, ast.comprehension, ast.IfExp, ast.BoolOp,
    ast.BinOp, ast.UnaryOp, ast.Compare, ast.JoinedStr, ast.FormattedValue, ast.expr_context, ast.boolop,
    ast.operator, ast.unaryop, ast.cmpop)
OWN_NAMES = (
    "len range enumerate zip min max sum abs sorted reversed int str bool list tuple dict set frozenset isinstance "
    "ord repr any all divmod Exception ValueError TypeError KeyError IndexError LookupError ZeroDivisionError "
    "ArithmeticError OverflowError RuntimeError NotImplementedError AttributeError StopIteration").split()
METHODS = (
    "append clear copy count endswith extend find get index insert isalnum isalpha isdigit islower isspace isupper "
    "items join keys ljust lower lstrip partition pop remove replace reverse rfind rjust rpartition rsplit rstrip "
    "setdefault split splitlines startswith strip update upper values zfill bit_length").split()
TWO_UNDERSCORES = "__init__ __eq__ __repr__ __str__ __len__".split()
NO_WORDS = (
    "type typing typing_extensions enum Enum IntEnum StrEnum Flag IntFlag Generic Protocol ABC ABCMeta namedtuple "
    "NamedTuple TypedDict TYPE_CHECKING abstractmethod").split()
NO_PARTS = "dataclass overload contextmanager".split()
NO_NAMES = "register mro elements open input version_info with_traceback add_note format format_map".split()


def text_faults(text):
    faults = []
    lines = text.split("\n")
    if len(lines) > 401:
        faults.append("L10: a file of more than 400 lines")
    for number, line in enumerate(lines, start=1):
        if len(line) > 120:
            faults.append(f"L10: line {number} is too long")
        if any(not " " <= sign <= "~" for sign in line):
            faults.append(f"L14: a sign of line {number}")
        for word in re.findall(r"\w+", line):
            if word in NO_WORDS or any(part in word for part in NO_PARTS):
                faults.append(f"L17: the word {word} in line {number}")
    return faults


def names_of(node):
    names = [getattr(node, kind) for kind in ("id", "arg", "attr", "name", "asname") if isinstance(
        getattr(node, kind, None), str)]
    return [] if isinstance(node, ast.alias) and node.asname is None and "." in node.name else names


def name_faults(node):
    faults = []
    for name in names_of(node):
        if not re.fullmatch(r"[A-Za-z][A-Za-z0-9_]*", name) and name not in TWO_UNDERSCORES:
            faults.append(f"L12: the name {name}")
        if name in NO_NAMES:
            faults.append(f"L17: the name {name}")
    if isinstance(node, ast.Name) and hasattr(builtins, node.id):
        if node.id not in OWN_NAMES or not isinstance(node.ctx, ast.Load):
            faults.append(f"L8, L15: the name {node.id}")
    if isinstance(node, ast.arg) and hasattr(builtins, node.arg):
        faults.append(f"L15: the parameter {node.arg}")
    return faults


def function_faults(node):
    given = node.args
    faults = []
    if node.decorator_list or given.vararg or given.kwarg or given.kwonlyargs or given.posonlyargs:
        faults.append("L4: what a def may have")
    if node.end_lineno - node.lineno >= 40:
        faults.append("L10: a def of more than 40 lines")
    if ast.get_docstring(node) is not None:
        faults.append("L6: a text by itself")
    return faults


def is_plain_value(node):
    if isinstance(node, ast.UnaryOp) and isinstance(node.op, ast.USub):
        return isinstance(node.operand, ast.Constant) and type(node.operand.value) is int
    return isinstance(node, ast.Constant) and type(node.value) in (int, str, bool, type(None))


def default_faults(node):
    given = [one for one in node.args.defaults + node.args.kw_defaults if one is not None]
    return ["L4: a default that is no plain value" for one in given if not is_plain_value(one)]


def class_faults(node):
    faults = []
    if node.decorator_list or node.keywords or len(node.bases) > 1:
        faults.append("L5: what a class may have")
    if any(not isinstance(row, (ast.FunctionDef, ast.Pass)) for row in node.body):
        faults.append("L5: a class has methods alone")
    return faults


def import_faults(node):
    if node.level != 0 or not node.module.startswith("rollcall."):
        return ["L2: imports are from the package's own modules"]
    return ["L2: import *, or as"] if any(one.name == "*" or one.asname for one in node.names) else []


def compare_faults(node):
    sides = [node.left] + node.comparators
    for number, sign in enumerate(node.ops):
        plain = [isinstance(side, ast.Constant) and side.value in (None, True, False) for side in
                 sides[number:number + 2]]
        if isinstance(sign, (ast.Is, ast.IsNot)) and not any(plain):
            return ["L20: is"]
    return []


def value_faults(node):
    if isinstance(node, ast.Constant) and not isinstance(node.value, (int, str, type(None))):
        return ["L7: a value of another kind"]
    if isinstance(node, ast.Constant) and isinstance(node.value, str) and "%" in node.value:
        return ["L27: a percent sign"]
    if isinstance(node, (ast.Div, ast.MatMult)):
        return ["L7: a sign of another kind"]
    if isinstance(node, ast.comprehension) and (len(node.ifs) > 1 or node.is_async):
        return ["L7: at most one if"]
    if isinstance(node, ast.ListComp) and len(node.generators) > 1:
        return ["L7: one for"]
    return []


def row_faults(node):
    if isinstance(node, (ast.For, ast.While)) and node.orelse:
        return ["L6: an else behind a loop"]
    if isinstance(node, ast.Try) and node.finalbody:
        return ["L6: finally"]
    if isinstance(node, ast.Assign) and len(node.targets) > 1:
        return ["L6: one target"]
    if isinstance(node, ast.BinOp) and isinstance(node.op, ast.Pow):
        power = node.right
        if not isinstance(power, ast.Constant) or power.value not in range(65):
            return ["L27: a written exponent"]
    return []


BY_KIND = [
    (ast.FunctionDef, function_faults), (ast.ClassDef, class_faults), (ast.ImportFrom, import_faults),
    (ast.Compare, compare_faults), (ast.FunctionDef, default_faults), (ast.Lambda, default_faults)]


def top_value_faults(tree):
    """L3, L15: plain values, and tuples, lists and dicts of these and of functions above, no list or dict within."""
    faults = []
    functions = []
    for row in tree.body:
        if isinstance(row, ast.FunctionDef):
            functions.append(row.name)
        if isinstance(row, ast.Assign):
            nodes = [node for node in ast.walk(row.value) if not isinstance(node, (ast.Load, ast.USub))]
            plain = [is_plain_value(node) or isinstance(node, (ast.Tuple, ast.List, ast.Dict)) or (
                isinstance(node, ast.Name) and node.id in functions) for node in nodes]
            inner = [node for node in nodes if isinstance(node, (ast.List, ast.Dict)) and node != row.value]
            if not all(plain) or inner:
                faults.append(f"L3, L15: the value of line {row.lineno}")
    return faults


def top_faults(tree):
    faults = top_value_faults(tree)
    names = []
    for number, row in enumerate(tree.body):
        if isinstance(row, (ast.FunctionDef, ast.ClassDef)):
            names.append(row.name)
        elif isinstance(row, ast.Assign):
            names.extend([target.id for target in row.targets])
        elif isinstance(row, ast.ImportFrom):
            names.extend([one.name for one in row.names])
        elif number > 0 or not isinstance(row, ast.Expr) or not isinstance(row.value, ast.Constant):
            faults.append(f"L3: line {row.lineno}")
    return faults + [f"L15: {name} is bound twice" for name in set(names) if names.count(name) > 1]


def method_faults(tree, own):
    called = [node.func.attr for node in ast.walk(tree)
              if isinstance(node, ast.Call) and isinstance(node.func, ast.Attribute)]
    return [f"L25: the method {name}" for name in called if name not in METHODS and name not in own]


def faults_of(text, own=()):
    tree = ast.parse(text)
    faults = text_faults(text) + top_faults(tree) + method_faults(tree, own)
    for node in ast.walk(tree):
        if not isinstance(node, NODES):
            faults.append(f"L6, L7: {type(node).__name__}")
        faults.extend(name_faults(node) + value_faults(node) + row_faults(node))
        for kind, look in BY_KIND:
            if isinstance(node, kind):
                faults.extend(look(node))
    return faults


def package_texts():
    return {path.name: path.read_text(encoding="utf-8") for path in sorted(PACKAGE.glob("*.py"))}


def own_methods(texts):
    nodes = [node for text in texts for node in ast.walk(ast.parse(text)) if isinstance(node, ast.ClassDef)]
    return [row.name for node in nodes for row in node.body if isinstance(row, ast.FunctionDef)]


def own_values(texts):
    nodes = [node for text in texts for node in ast.walk(ast.parse(text)) if isinstance(node, ast.Attribute)]
    return [node.attr for node in nodes if isinstance(node.ctx, ast.Store)]


def kept_walks(text):
    """L23: what is walked on the spot stands behind an in, or first in a call that walks it."""
    walks = "zip enumerate reversed range items keys values".split()
    takers = "list tuple dict sorted sum any all enumerate zip min max join".split()
    tree = ast.parse(text)
    walked = [node.iter for node in ast.walk(tree) if isinstance(node, (ast.For, ast.comprehension))]
    calls = [node for node in ast.walk(tree) if isinstance(node, ast.Call)]
    for call in calls:
        if called_name(call) in takers:
            walked.extend(call.args)
    return [f"L23: {called_name(call)} kept" for call in calls if called_name(call) in walks and call not in walked]


def hiding_names(text):
    """L15: a parameter or a local that is called like a class or an import of its file."""
    tree = ast.parse(text)
    taken = [row.name for row in tree.body if isinstance(row, ast.ClassDef)]
    for row in tree.body:
        if isinstance(row, ast.ImportFrom):
            taken.extend([one.name for one in row.names])
    nodes = [node for node in ast.walk(tree) if isinstance(node, (ast.Name, ast.arg))]
    bound = [names_of(node)[0] for node in nodes if isinstance(node, ast.arg) or isinstance(node.ctx, ast.Store)]
    return [f"L15: the name {name}" for name in bound if name in taken]


def called_name(call):
    return getattr(call.func, "id", getattr(call.func, "attr", ""))


class Language(unittest.TestCase):

    def test_the_package_keeps_to_the_rules(self):
        texts = package_texts()
        own = own_methods(texts.values())
        for name, text in texts.items():
            with self.subTest(file=name):
                self.assertEqual(faults_of(text, own), [])

    def test_every_default_of_the_package_is_a_plain_value(self):
        for name, text in package_texts().items():
            for node in ast.walk(ast.parse(text)):
                if isinstance(node, (ast.FunctionDef, ast.Lambda)):
                    with self.subTest(file=name, line=node.lineno):
                        self.assertEqual(default_faults(node), [])

    def test_no_name_is_a_method_and_a_value(self):
        texts = package_texts().values()
        self.assertEqual(sorted(set(own_methods(texts)) & set(own_values(texts))), [])

    def test_what_is_walked_is_not_kept(self):
        for name, text in package_texts().items():
            with self.subTest(file=name):
                self.assertEqual(kept_walks(text), [])
        for text in ["def f(x):\n    y = range(x)\n    return y\n", "def f(x):\n    return x.items()\n"]:
            self.assertEqual(len(kept_walks(text)), 1)

    def test_no_local_hides_a_class_or_an_import(self):
        for name, text in package_texts().items():
            with self.subTest(file=name):
                self.assertEqual(hiding_names(text), [])
        begin = "from rollcall.cards import card\nclass Deal:\n    pass\n"
        for text in ["def f(card):\n    return card\n", "def f(x):\n    card = x\n    return card\n",
                     "def f(x):\n    return [card for card in x]\n", "def f(x):\n    return lambda Deal: x\n",
                     "def f(x):\n    for y, card in x:\n        f(y)\n"]:
            self.assertEqual(len(hiding_names(begin + text)), 1, text)

    def test_plain_values_at_the_top_are_no_fault(self):
        for text in ["x = -1\n", "x = 'a'\n", "x = (1, ('a', None))\n", "x = [(1, 2), True]\n", "x = {'a': (1,)}\n",
                     "def f(x):\n    return x\n\n\ny = {'a': f}\n"]:
            self.assertEqual(faults_of(text), [], text)

    def test_plain_defaults_are_no_fault(self):
        text = "def f(a, b=0, c=-1, d='', e='x', g=True, h=False, k=None):\n    return a\n"
        self.assertEqual(faults_of(text), [])

    def test_other_defaults_are_found(self):
        for value in ["()", "(1,)", "[]", "[0]", "{}", "{'a': 1}", "{1}", "1.5", "-1.5", "b''", "...", "y", "list()",
                      "1 + 1", "not True", "-True", "f'a'", "lambda: 0"]:
            for text in [
                    f"def f(x={value}):\n    return x\n", f"def f(x, z={value}, w=None):\n    return x\n",
                    f"class A:\n    def f(self, x={value}):\n        return x\n",
                    f"def f(w):\n    def g(x={value}):\n        return x\n    return g\n",
                    f"def f(w):\n    return lambda x={value}: x\n"]:
                with self.subTest(text=text):
                    self.assertIn("L4: a default that is no plain value", faults_of(text))

    def test_nothing_but_plain_files_lies_in_the_package(self):
        names = [path.name for path in PACKAGE.iterdir() if path.name != "__pycache__"]
        self.assertIn("__init__.py", names)
        for name in names:
            with self.subTest(file=name):
                self.assertRegex(name, r"^([a-z][a-z0-9_]*|__init__|__main__)\.py$")
                self.assertNotRegex(name, r"^test")

    def test_no_two_files_draw_from_one_another(self):
        drawn = {}
        for name, text in package_texts().items():
            rows = [row for row in ast.parse(text).body if isinstance(row, ast.ImportFrom)]
            drawn[name] = {row.module.split(".")[1] + ".py" for row in rows}
        while drawn:
            free = [name for name in drawn if not drawn[name] & set(drawn)]
            self.assertTrue(free, drawn)
            drawn = {name: drawn[name] for name in drawn if name not in free}

    def test_faults_are_found(self):
        for text in [
                "x = 1.5\n", "x = 4 / 2\n", "x = {y for y in [1]}\n", "import sys\n", "from os import path\n",
                "from rollcall.words import *\n", "x = 1\nx = 2\n", "print(1)\n", "def f(*xs):\n    pass\n",
                "def f(min):\n    pass\n", "def f(x):\n    return x is x\n", "x = eval\n", "x = 'a % b'\n",
                "class A(int, str):\n    pass\n", "class A:\n    x = 1\n", "def f(x):\n    x.sort()\n",
                "def f(x):\n    assert x\n", "def f(x):\n    x = y = 1\n", "# a type\n", "# \u00e4\n", "x = 1\t\n",
                "def f(n):\n    return 2 ** n\n", "def f(x):\n    'does'\n", "def f(x):\n    _y = x\n",
                "x = [u for v in [1] for u in [2]]\n", "y = 1\nx = (y, 2)\n", "x = 10 ** 6\n", "x = [[1]]\n",
                "x = {1: [2]}\n", "x = len([1])\n", "x = ([1], 2)\n", "# " + "x" * 120 + "\n", "x = 1\n" + "\n" * 400,
                "def f(x):\n" + "    f(x)\n" * 40, "def f(x):\n    for y in x:\n        pass\n    else:\n        f(y)\n"]:
            with self.subTest(text=text[:60]):
                self.assertNotEqual(faults_of(text), [])


if __name__ == "__main__":
    unittest.main()

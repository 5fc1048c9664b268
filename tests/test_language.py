"""The package's own files keep to the small part of Python that they are written in.

Of the rules L1 to L28 only the simpler ones are looked at, some of them in part; L9, L11, L13, L22, L26 and L28 are
not, and are left to the reader.
"""

import ast
import builtins
import pathlib
import re
import unittest

FOLDER = pathlib.Path(__file__).resolve().parent.parent / "bundlehouse"

NODES = (
    "Module Expr Assign AugAssign If While For Return Break Continue Pass Raise Try ExceptHandler FunctionDef ClassDef "
    "ImportFrom alias arguments arg Lambda Name Attribute Subscript Slice Constant List Tuple Dict Set Load Store "
    "BinOp UnaryOp BoolOp Compare IfExp Call keyword ListComp comprehension JoinedStr FormattedValue "
    "Add Sub Mult FloorDiv Mod Pow BitAnd BitOr BitXor LShift RShift Invert Not USub UAdd And Or "
    "Eq NotEq Lt LtE Gt GtE Is IsNot In NotIn"
).split()
OWN_NAMES = (
    "len range enumerate zip min max sum abs sorted reversed int str bool list tuple dict set frozenset isinstance ord "
    "repr any all divmod Exception ValueError TypeError KeyError IndexError LookupError ZeroDivisionError "
    "ArithmeticError OverflowError RuntimeError NotImplementedError AttributeError StopIteration"
).split()
METHODS = (
    "append clear copy count endswith extend find get index insert isalnum isalpha isdigit islower isspace isupper "
    "items join keys ljust lower lstrip partition pop remove replace reverse rfind rjust rpartition rsplit rstrip "
    "setdefault split splitlines startswith strip update upper values zfill bit_length"
).split()
DOUBLE = "__init__ __eq__ __repr__ __str__ __len__".split()
NOWHERE = (
    r"\b(type|typing|typing_extensions|enum|Enum|IntEnum|StrEnum|Flag|IntFlag|Generic|Protocol|ABC|ABCMeta|namedtuple"
    r"|NamedTuple|TypedDict|TYPE_CHECKING|abstractmethod)\b|dataclass|overload|contextmanager"
)
UNUSED = (
    "register mro elements open input version_info with_traceback add_note attrgetter breakpoint builtins compile "
    "copyright credits delattr dir eval exec exit gc getattr globals hasattr help id importlib license locals "
    "methodcaller os quit setattr super type vars sys format format_map"
).split()
PYTHONS_METHODS = set().union(*(dir(kind) for kind in (str, int, list, tuple, dict, set, bytes)))


def sources():
    return {path.name: path.read_text("ascii") for path in sorted(FOLDER.glob("*.py"))}


def text_faults(source):
    for number, line in enumerate(source.split("\n")):
        if len(line) > 120:
            yield ("L10", number)
        if re.search(r"[^ -~]", line):
            yield ("L14", number)
        if re.search(NOWHERE, line):
            yield ("L17", number)
    if source.count("\n") > 400:
        yield ("L10", 400)


def top_faults(tree):
    seen = []
    for place, node in enumerate(tree.body):
        if isinstance(node, ast.ImportFrom):
            seen.extend(alias.name for alias in node.names)
        elif isinstance(node, (ast.FunctionDef, ast.ClassDef)):
            seen.append(node.name)
        elif isinstance(node, ast.Assign) and isinstance(node.targets[0], ast.Name):
            seen.append(node.targets[0].id)
        elif place or ast.get_docstring(tree) is None:
            yield ("L3", node.lineno)
    if len(set(seen)) < len(seen):
        yield ("L15", 1)


def import_faults(node):
    if isinstance(node, ast.ImportFrom):
        if node.level or not node.module.startswith("bundlehouse.") or node.module.endswith("__main__"):
            yield ("L2", node.lineno)
        if any(alias.name == "*" or alias.asname for alias in node.names):
            yield ("L2", node.lineno)


def def_faults(node):
    if isinstance(node, (ast.FunctionDef, ast.ClassDef)) and node.decorator_list:
        yield ("L4", node.lineno)
    if isinstance(node, ast.FunctionDef) and node.end_lineno - node.lineno >= 40:
        yield ("L10", node.lineno)
    if isinstance(node, (ast.FunctionDef, ast.Lambda)):
        if node.args.vararg or node.args.kwarg or node.args.kwonlyargs or node.args.posonlyargs:
            yield ("L4", node.lineno)
    if isinstance(node, ast.ClassDef):
        if len(node.bases) > 1 or node.keywords:
            yield ("L5", node.lineno)
        for inner in node.body:
            if not isinstance(inner, (ast.FunctionDef, ast.Pass)):
                yield ("L5", inner.lineno)


def bound_names(node):
    if isinstance(node, ast.Name) and isinstance(node.ctx, ast.Store):
        return [node.id]
    if isinstance(node, ast.arg):
        return [node.arg]
    if isinstance(node, (ast.FunctionDef, ast.ClassDef)):
        return [node.name]
    if isinstance(node, ast.ExceptHandler) and node.name:
        return [node.name]
    return []


def name_faults(node):
    line = getattr(node, "lineno", 0)
    for name in bound_names(node):
        if not re.fullmatch("[A-Za-z][A-Za-z0-9_]*", name) and name not in DOUBLE:
            yield ("L12", line)
        if name in dir(builtins) or name in UNUSED:
            yield ("L15", line)
    if isinstance(node, ast.Name) and node.id in dir(builtins) and node.id not in OWN_NAMES:
        yield ("L8", line)
    if isinstance(node, ast.Name) and node.id in UNUSED:
        yield ("L17", line)
    if isinstance(node, ast.Attribute):
        if node.attr in PYTHONS_METHODS and node.attr not in METHODS and node.attr != "__init__":
            yield ("L25", line)
        if node.attr in UNUSED:
            yield ("L17", line)


def statement_faults(node):
    line = getattr(node, "lineno", 0)
    if type(node).__name__ not in NODES:
        yield ("L6/L7", line)
    if isinstance(node, ast.Assign) and (len(node.targets) > 1 or isinstance(node.targets[0], (ast.Tuple, ast.List))):
        yield ("L6", line)
    if isinstance(node, (ast.For, ast.While)) and node.orelse:
        yield ("L6", line)
    if isinstance(node, ast.Try) and node.finalbody:
        yield ("L6", line)
    if isinstance(node, ast.ExceptHandler):
        names = [inner.id for inner in ast.walk(node.type) if isinstance(inner, ast.Name)] if node.type else []
        if not names or "Exception" in names or "TypeError" in names:
            yield ("L19", line)


def value_faults(node):
    line = getattr(node, "lineno", 0)
    if isinstance(node, ast.Constant) and not isinstance(node.value, (int, str, type(None))):
        yield ("L7", line)
    if isinstance(node, ast.Constant) and isinstance(node.value, str) and chr(37) in node.value:
        yield ("L27", line)
    if isinstance(node, ast.BinOp) and isinstance(node.op, ast.Pow) and not isinstance(node.right, ast.Constant):
        yield ("L27", line)
    if isinstance(node, ast.ListComp) and (len(node.generators) > 1 or len(node.generators[0].ifs) > 1):
        yield ("L7", line)
    if isinstance(node, ast.Compare) and any(isinstance(op, (ast.Is, ast.IsNot)) for op in node.ops):
        sides = [node.left] + node.comparators
        if not any(isinstance(side, ast.Constant) and isinstance(side.value, (bool, type(None))) for side in sides):
            yield ("L20", line)


def annotation_faults(node):
    if isinstance(node, ast.AnnAssign) or getattr(node, "returns", None) or getattr(node, "annotation", None):
        yield ("L21", getattr(node, "lineno", 0))


def local_faults(tree):
    """Locals and parameters called like a class or an import of the file."""
    taken = [node.name for node in tree.body if isinstance(node, ast.ClassDef)]
    for node in tree.body:
        if isinstance(node, ast.ImportFrom):
            taken.extend(alias.name for alias in node.names)
    for top in tree.body:
        for node in ast.walk(top):
            if node is not top and any(name in taken for name in bound_names(node)) and not is_method(top, node):
                yield ("L15", node.lineno)


def is_method(top, node):
    return isinstance(top, ast.ClassDef) and node in top.body


def is_walker(node):
    if not isinstance(node, ast.Call):
        return False
    if isinstance(node.func, ast.Attribute):
        return node.func.attr in ("items", "keys", "values")
    return isinstance(node.func, ast.Name) and node.func.id in ("zip", "enumerate", "reversed", "range")


def walked_on_the_spot(node):
    """What a node walks itself, at once."""
    if isinstance(node, (ast.For, ast.comprehension)):
        return [node.iter]
    if isinstance(node, ast.Call) and isinstance(node.func, ast.Name) and node.args:
        if node.func.id in ("list", "tuple", "dict", "sorted", "sum", "any", "all", "enumerate"):
            return node.args[:1]
        if node.func.id == "zip" or (node.func.id in ("min", "max") and len(node.args) == 1):
            return node.args
    if isinstance(node, ast.Call) and isinstance(node.func, ast.Attribute) and node.func.attr == "join":
        return node.args
    return []


def walk_faults(tree):
    walked = [inner for node in ast.walk(tree) for inner in walked_on_the_spot(node)]
    for node in ast.walk(tree):
        if is_walker(node) and node not in walked:
            yield ("L23", node.lineno)
        if isinstance(node, ast.Set):
            yield ("L24", node.lineno)


def set_faults(tree):
    """Sets that are kept: made in an assignment, a return or a loop."""
    for node in ast.walk(tree):
        value = getattr(node, "iter" if isinstance(node, ast.For) else "value", None)
        if isinstance(node, (ast.Assign, ast.Return, ast.For)) and isinstance(value, ast.Call):
            if isinstance(value.func, ast.Name) and value.func.id in ("set", "frozenset"):
                yield ("L24", node.lineno)


def methods_and_values(tree):
    methods, values = [], []
    for top in tree.body:
        if isinstance(top, ast.ClassDef):
            methods.extend(node.name for node in top.body if isinstance(node, ast.FunctionDef))
    for node in ast.walk(tree):
        if isinstance(node, ast.Attribute) and isinstance(node.ctx, ast.Store):
            values.append(node.attr)
    return methods, values


def faults(source):
    tree = ast.parse(source)
    found = list(text_faults(source))
    for part in (top_faults, local_faults, walk_faults, set_faults):
        found.extend(part(tree))
    for node in ast.walk(tree):
        for part in (import_faults, def_faults, name_faults, statement_faults, value_faults, annotation_faults):
            found.extend(part(node))
    return found


def drawn_from(source):
    return [node for node in ast.walk(ast.parse(source)) if isinstance(node, ast.ImportFrom)]


class Files(unittest.TestCase):
    def test_only_plain_files_lie_in_the_package(self):
        for path in FOLDER.iterdir():
            if path.name != "__pycache__":
                self.assertRegex(path.name, r"^([a-z][a-z0-9_]*|__init__|__main__)\.py$")
        self.assertIn("__init__.py", sources())

    def test_every_file_keeps_to_the_rules(self):
        for name, source in sources().items():
            with self.subTest(name):
                self.assertEqual(faults(source), [])

    def test_names_are_drawn_from_the_files_that_define_them(self):
        for name, source in sources().items():
            for node in drawn_from(source):
                other = ast.parse(sources()[node.module.partition(".")[2] + ".py"])
                own = [found for inner in other.body for found in bound_names(inner)]
                own.extend(found for inner in other.body if isinstance(inner, ast.Assign)
                           for found in bound_names(inner.targets[0]))
                for alias in node.names:
                    self.assertIn(alias.name, own, name)

    def test_no_name_is_a_method_here_and_a_value_there(self):
        methods, values = [], []
        for source in sources().values():
            found = methods_and_values(ast.parse(source))
            methods.extend(found[0])
            values.extend(found[1])
        self.assertIn("rows_of", methods)
        self.assertIn("number", values)
        self.assertEqual(set(methods) & set(values), set())

    def test_no_files_draw_from_one_another(self):
        left = {name: [node.module.partition(".")[2] + ".py" for node in drawn_from(source)]
                for name, source in sources().items()}
        while left:
            free = [name for name in left if not any(other in left for other in left[name])]
            self.assertTrue(free, left)
            left = {name: others for name, others in left.items() if name not in free}


class TheLookItself(unittest.TestCase):
    def test_wrong_code_is_found(self):
        wrong = (
            "import os\n", "from os import path\n", "from bundlehouse.rows import *\n", "x = 1\nx = 2\n", "print(1)\n",
            "def f(*a):\n    pass\n", "def f():\n    yield 1\n", "def f(list):\n    pass\n", "x = 1.5\n", "x = 1 / 2\n",
            "class A:\n    x = 1\n", "def f(x):\n    return x is 1\n", "def f(x):\n    del x\n", "x = 'a%'\n",
            "def f(x):\n    return (a for a in x)\n", "def f(x):\n    return x.title()\n", "_x = 1\n",
            "def f(x):\n    return 2 ** x\n", "def f(x):\n    return chr(x)\n", "def f(x):\n    a = b = x\n",
            "def f():\n" + "    pass\n" * 40, "x = '" + "a" * 120 + "'\n", "# type\n", "x = '\u00e9'\n", "#\t\n",
            "def f(x):\n    try:\n        return x\n    except Exception:\n        return 1\n",
            "def f(x: int):\n    return x\n", "def f(x) -> int:\n    return x\n", "x: int = 1\n",
            "from bundlehouse.rows import read_row\ndef f(read_row):\n    return 1\n",
            "class A:\n    pass\ndef f():\n    A = 1\n", "def f(x):\n    return zip(x, x)\n",
            "def f(x):\n    x.extend(reversed(x))\n", "def f(x):\n    y = x.items()\n",
            "def f(x):\n    return {1, x}\n",
            "def f(x):\n    y = set(x)\n", "def f(x):\n    for y in set(x):\n        return y\n",
        )
        for source in wrong:
            with self.subTest(source):
                self.assertNotEqual(faults(source), [])

    def test_right_code_is_not(self):
        right = (
            "", '"""Words."""\n', "from bundlehouse.rows import read_row\n", "X = (1, 'a', None)\n",
            "def f(x, y=1):\n    return [a for a in x if a is not None]\n", "class A(ValueError):\n    pass\n",
            "def f(x):\n    for a, b in enumerate(x):\n        x = x + [a * b]\n    return x\n",
            "def f(x):\n    return list(reversed([a for a, b in x.items()]))\n",
            "def f(x, y):\n    return x in set(y)\n",
            "from bundlehouse.net import makers\nclass A:\n    def makers(self, x):\n        return makers(x)\n",
        )
        for source in right:
            with self.subTest(source):
                self.assertEqual(faults(source), [])


if __name__ == "__main__":
    unittest.main()

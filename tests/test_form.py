"""The part of Python that the package keeps to.

Each check bears the number of the rule it stands for. Some are narrower than
their rule, where the package needs no more: no annotation, no set, no lambda, no
docstring but a file's own, no list or dict at a file's top, no method with two
underscores but __init__, of Python's errors only those taken that L19 leaves free.
"""

import ast
import builtins
import os
import re
import unittest

TOP = os.path.dirname(os.path.dirname(os.path.abspath(__file__)))
PACKAGE = "seatweave"

ERRORS = (
    "Exception ValueError TypeError KeyError IndexError LookupError ZeroDivisionError ArithmeticError"
    " OverflowError RuntimeError NotImplementedError AttributeError StopIteration"
).split()
OWN_NAMES = ERRORS + (
    "len range enumerate zip min max sum abs sorted reversed int str bool list tuple dict"
    " isinstance ord repr any all divmod"
).split()
METHODS = (
    "append clear copy count endswith extend find get index insert isalnum isalpha isdigit islower isspace"
    " isupper items join keys ljust lower lstrip partition pop remove replace reverse rfind rjust rpartition"
    " rsplit rstrip setdefault split splitlines startswith strip update upper values zfill bit_length"
).split()
DOUBLE = ["__init__"]
FREE_ERRORS = "KeyError ZeroDivisionError StopIteration".split()
CHANGES = "append clear extend insert pop remove reverse setdefault update".split()
NOT_NAMES = (
    "attrgetter breakpoint builtins compile copyright credits delattr dir eval exec exit gc getattr globals"
    " hasattr help id importlib license locals methodcaller os quit setattr super type vars sys __name__"
    " register mro elements open input version_info with_traceback add_note"
).split()
NOT_VALUES = "register mro elements open input version_info with_traceback add_note format format_map".split()
NOT_FIELDS = (
    "items keys values pop update append clear extend insert remove reverse setdefault sort args encode format"
).split()
FREE_FIELDS = "count index title find get join lower upper split strip copy add".split()
NOT_WORDS = (
    "type typing typing_extensions enum Enum IntEnum StrEnum Flag IntFlag Generic Protocol ABC ABCMeta"
    " namedtuple NamedTuple TypedDict TYPE_CHECKING abstractmethod"
).split()
NOT_PARTS = "dataclass overload contextmanager".split()
NOT_FILES = "test tests testing site conftest sitecustomize usercustomize".split()
KEYWORDS = {
    "sorted": ("key", "reverse"), "min": ("key", "default"), "max": ("key", "default"),
    "sum": ("start",), "enumerate": ("start",), "zip": ("strict",),
}
WALKED = ("zip", "enumerate", "reversed", "range")
WALKED_METHODS = ("items", "keys", "values")
WALKERS = "list tuple dict sorted sum any all enumerate zip".split()
NODES = tuple(getattr(ast, name) for name in (
    "Module FunctionDef ClassDef Return Assign AugAssign For While If Raise Try ExceptHandler ImportFrom Expr"
    " Pass Break Continue BoolOp BinOp UnaryOp IfExp Dict ListComp comprehension Compare Call JoinedStr"
    " FormattedValue Constant Attribute Subscript Name List Tuple Slice keyword arguments arg alias"
    " expr_context operator unaryop boolop cmpop"
).split())
PYTHON_VALUES = (str, int, list, dict, set, bytes, tuple)


def defined_names(tree):
    found = []
    for node in tree.body:
        if isinstance(node, (ast.FunctionDef, ast.ClassDef)):
            found.append(node.name)
        elif isinstance(node, ast.Assign):
            found += [target.id for target in node.targets if isinstance(target, ast.Name)]
    return found


def class_methods(tree):
    return [
        node.name for kind in ast.walk(tree) if isinstance(kind, ast.ClassDef)
        for node in kind.body if isinstance(node, ast.FunctionDef)
    ]


def stored_fields(tree):
    return [
        node.attr for node in ast.walk(tree)
        if isinstance(node, ast.Attribute) and isinstance(node.ctx, ast.Store)
    ]


def is_docstring(node):
    return isinstance(node, ast.Expr) and isinstance(node.value, ast.Constant) and isinstance(node.value.value, str)


def is_plain(node, known):
    if isinstance(node, ast.Constant):
        return True
    if isinstance(node, ast.UnaryOp):
        return isinstance(node.op, ast.USub) and isinstance(node.operand, ast.Constant)
    if isinstance(node, (ast.List, ast.Tuple)):
        return all(is_plain(part, known) for part in node.elts)
    if isinstance(node, ast.Dict):
        return all(part is not None and is_plain(part, known) for part in node.keys + node.values)
    return isinstance(node, ast.Name) and node.id in known


class Form:
    """The faults of one file, as (rule, line) pairs."""

    def __init__(self, source, modules, methods):
        self.source = source
        self.modules = modules
        self.methods = methods
        self.tree = ast.parse(source)
        self.faults = []
        self.parents = {}
        for node in ast.walk(self.tree):
            for child in ast.iter_child_nodes(node):
                self.parents[child] = node

    def fault(self, rule, node):
        self.faults.append((rule, node if isinstance(node, int) else getattr(node, "lineno", 0)))

    def found(self):
        self.check_lines()
        self.check_top()
        for node in ast.walk(self.tree):
            if not isinstance(node, NODES):
                self.fault("L6 or L7", node)
            check = getattr(self, "check_" + type(node).__name__, None)
            if check is not None:
                check(node)
        return sorted(set(self.faults))

    def check_lines(self):
        lines = self.source.split("\n")
        if len(lines) > 401:
            self.fault("L10", 401)
        for number, line in enumerate(lines, start=1):
            if len(line) > 120:
                self.fault("L10", number)
            if re.search(r"[^ -~]", line):
                self.fault("L14", number)
            if re.search(r"\\[^nt\\\"']", line) or line.endswith("\\"):
                self.fault("L27", number)
            words = re.findall(r"\w+", line)
            if any(word in NOT_WORDS for word in words) or any(part in line for part in NOT_PARTS):
                self.fault("L17", number)
            if re.search(r"\d{901}", line):
                self.fault("L27", number)

    def check_top(self):
        known = []
        bound = []
        for place, node in enumerate(self.tree.body):
            if isinstance(node, ast.Assign):
                if not (isinstance(node.targets[0], ast.Name) and is_plain(node.value, known)):
                    self.fault("L3", node)
                if any(isinstance(part, (ast.List, ast.Dict)) for part in ast.walk(node.value)):
                    self.fault("L15", node)
            elif not isinstance(node, (ast.FunctionDef, ast.ClassDef, ast.ImportFrom)):
                if not (place == 0 and is_docstring(node)):
                    self.fault("L3", node)
            if isinstance(node, ast.FunctionDef):
                known.append(node.name)
            if isinstance(node, ast.ImportFrom):
                bound += [alias.asname or alias.name for alias in node.names]
        bound += defined_names(self.tree)
        for name in bound:
            if bound.count(name) > 1:
                self.fault("L15", 0)

    def check_name(self, name, node):
        if not re.fullmatch(r"[A-Za-z][A-Za-z0-9_]*", name) and name not in DOUBLE + ["__all__", "__version__"]:
            self.fault("L12", node)

    def check_bound(self, name, node):
        self.check_name(name, node)
        if hasattr(builtins, name):
            self.fault("L15", node)
        if name in NOT_NAMES:
            self.fault("L17", node)
        reserved = [part.name for part in self.tree.body if isinstance(part, ast.ClassDef)]
        for part in self.tree.body:
            if isinstance(part, ast.ImportFrom):
                reserved += [alias.asname or alias.name for alias in part.names]
        if name in reserved:
            self.fault("L15", node)

    def check_Name(self, node):
        self.check_name(node.id, node)
        if isinstance(node.ctx, ast.Store):
            self.check_bound(node.id, node)
        elif hasattr(builtins, node.id) and node.id not in OWN_NAMES:
            self.fault("L8", node)
        elif node.id in OWN_NAMES and node.id not in ERRORS:
            self.check_own_name(node)
        elif re.match(r"[A-Z][a-z]", node.id):
            self.check_class_name(node)

    def check_class_name(self, node):
        above = self.parents[node]
        if isinstance(above, ast.Attribute) and above.attr == "__init__":
            return
        while isinstance(above, ast.Tuple):
            above = self.parents[above]
        called = isinstance(above, ast.Call) and above.func is node
        asked = isinstance(above, ast.Call) and isinstance(above.func, ast.Name) and above.func.id == "isinstance"
        if not (called or asked or isinstance(above, (ast.ClassDef, ast.ExceptHandler))):
            self.fault("L18", node)

    def check_own_name(self, node):
        above = self.parents[node]
        called = isinstance(above, ast.Call) and above.func is node
        keyed = isinstance(above, ast.keyword) and above.arg == "key"
        while isinstance(above, ast.Tuple):
            above = self.parents[above]
        asked = isinstance(above, ast.Call) and isinstance(above.func, ast.Name) and above.func.id == "isinstance"
        if not (called or keyed or asked):
            self.fault("L22", node)

    def check_ImportFrom(self, node):
        if self.parents[node] is not self.tree or node.level or not (node.module or "").startswith(PACKAGE + "."):
            self.fault("L2", node)
            return
        for alias in node.names:
            if alias.name not in self.modules.get(node.module, []):
                self.fault("L16", node)

    def check_FunctionDef(self, node):
        if node.decorator_list or node.returns is not None:
            self.fault("L4", node)
        if node.end_lineno - node.lineno + 1 > 40:
            self.fault("L10", node)
        if isinstance(self.parents[node], ast.ClassDef):
            self.check_method(node)
        else:
            self.check_name(node.name, node)
            if node.name in DOUBLE or hasattr(builtins, node.name) or node.name in NOT_NAMES:
                self.fault("L8", node)

    def check_method(self, node):
        self.check_name(node.name, node)
        python_has = any(hasattr(kind, node.name) for kind in PYTHON_VALUES)
        if python_has and node.name not in DOUBLE + METHODS + ["add", "discard"]:
            self.fault("L26", node)
        if node.name in NOT_VALUES:
            self.fault("L17", node)
        for part in ast.walk(node):
            if node.name == "__init__" and isinstance(part, ast.Return) and part.value is not None:
                self.fault("L28", part)

    def check_arguments(self, node):
        if node.vararg or node.kwarg or node.kwonlyargs or node.posonlyargs:
            self.fault("L4", self.parents[node])
        if not all(is_plain(value, []) for value in node.defaults):
            self.fault("L4", self.parents[node])

    def check_arg(self, node):
        self.check_bound(node.arg, node)
        if node.annotation is not None:
            self.fault("L21", node)

    def check_ClassDef(self, node):
        self.check_name(node.name, node)
        if self.parents[node] is not self.tree:
            self.fault("L15", node)
        if node.decorator_list or node.keywords or len(node.bases) > 1 or hasattr(builtins, node.name):
            self.fault("L5", node)
        for base in node.bases:
            if isinstance(base, ast.Name) and base.id in ("StopIteration", "AttributeError"):
                self.fault("L18", node)
        names = [part.name for part in node.body if isinstance(part, ast.FunctionDef)]
        if len(names) != len(set(names)):
            self.fault("L18", node)
        for part in node.body:
            if not isinstance(part, (ast.FunctionDef, ast.Pass)):
                self.fault("L5", part)

    def check_Assign(self, node):
        if len(node.targets) != 1 or isinstance(node.targets[0], (ast.Tuple, ast.List)):
            self.fault("L6", node)

    def check_Expr(self, node):
        if not isinstance(node.value, ast.Call) and not (node is self.tree.body[0] and is_docstring(node)):
            self.fault("L6", node)

    def check_While(self, node):
        if node.orelse:
            self.fault("L6", node)

    def check_For(self, node):
        self.check_While(node)
        walked = [ast.dump(part) for part in self.walked_parts(node.iter)]
        for part in ast.walk(ast.Module(body=node.body, type_ignores=[])):
            if isinstance(part, ast.Call) and isinstance(part.func, ast.Attribute) and part.func.attr in CHANGES:
                if ast.dump(part.func.value) in walked:
                    self.fault("L23", part)
            if isinstance(part, ast.Subscript) and isinstance(part.ctx, ast.Store):
                if ast.dump(part.value) in walked:
                    self.fault("L23", part)
            if isinstance(part, ast.AugAssign) and ast.dump(part.target).replace("Store", "Load") in walked:
                self.fault("L23", part)

    def walked_parts(self, node):
        if isinstance(node, ast.Call) and isinstance(node.func, ast.Name) and node.func.id in WALKED:
            return [part for arg in node.args for part in self.walked_parts(arg)]
        if isinstance(node, ast.Call) and isinstance(node.func, ast.Attribute) and node.func.attr in WALKED_METHODS:
            return [node.func.value]
        return [node]

    def check_Try(self, node):
        if node.finalbody or not node.handlers:
            self.fault("L6", node)

    def check_ExceptHandler(self, node):
        names = [part.id for part in ast.walk(node.type) if isinstance(part, ast.Name)] if node.type else []
        if not names or any(name in ERRORS and name not in FREE_ERRORS for name in names):
            self.fault("L19", node)
        if node.name is not None:
            self.check_bound(node.name, node)

    def check_Raise(self, node):
        if not isinstance(node.exc, ast.Call):
            self.fault("L19", node)

    def check_Constant(self, node):
        if node.value is not None and type(node.value) not in (int, str, bool):
            self.fault("L7", node)
        if isinstance(node.value, str) and "%" in node.value:
            self.fault("L27", node)

    def check_BinOp(self, node):
        if isinstance(node.op, (ast.Div, ast.MatMult)):
            self.fault("L7", node)
        if isinstance(node.op, ast.Pow):
            power = node.right
            if not (isinstance(power, ast.Constant) and type(power.value) is int and 0 <= power.value <= 64):
                self.fault("L27", node)

    def check_AugAssign(self, node):
        if isinstance(node.op, (ast.Div, ast.MatMult, ast.Pow)):
            self.fault("L7", node)

    def check_Compare(self, node):
        sides = [node.left] + node.comparators
        for place, op in enumerate(node.ops):
            if isinstance(op, (ast.Is, ast.IsNot)):
                pair = sides[place:place + 2]
                if not any(isinstance(side, ast.Constant) and side.value in (None, True, False) for side in pair):
                    self.fault("L20", node)

    def check_ListComp(self, node):
        if len(node.generators) != 1 or len(node.generators[0].ifs) > 1:
            self.fault("L7", node)

    def check_FormattedValue(self, node):
        plain = isinstance(node.value, ast.Name) and node.conversion in (-1, ord("r")) and node.format_spec is None
        if not plain:
            self.fault("L7", node)

    def check_Attribute(self, node):
        self.check_name(node.attr, node)
        if node.attr in NOT_VALUES:
            self.fault("L17", node)
        above = self.parents[node]
        if node.attr in METHODS + self.methods and not (isinstance(above, ast.Call) and above.func is node):
            self.fault("L25", node)
        if isinstance(node.ctx, ast.Store):
            python_has = any(hasattr(kind, node.attr) for kind in PYTHON_VALUES)
            if node.attr in NOT_FIELDS or (python_has and node.attr not in FREE_FIELDS):
                self.fault("L26", node)

    def check_Call(self, node):
        named = node.func.id if isinstance(node.func, ast.Name) else None
        method = node.func.attr if isinstance(node.func, ast.Attribute) else None
        if method is not None and method not in METHODS + self.methods + ["__init__"]:
            self.fault("L25", node)
        if method == "__init__" and not isinstance(node.func.value, ast.Name):
            self.fault("L28", node)
        if named in OWN_NAMES or method in METHODS:
            for keyword in node.keywords:
                if keyword.arg not in KEYWORDS.get(named, ()):
                    self.fault("L22", node)
        if named in WALKED or (method in WALKED_METHODS):
            self.check_walked(node)

    def check_walked(self, node):
        above = self.parents[node]
        if isinstance(above, (ast.For, ast.comprehension)) and above.iter is node:
            return
        if isinstance(above, ast.Call) and isinstance(above.func, ast.Name) and node in above.args:
            if above.func.id in WALKERS and (above.func.id == "zip" or above.args[0] is node):
                return
            if above.func.id in ("min", "max") and len(above.args) == 1:
                return
        if isinstance(above, ast.Call) and isinstance(above.func, ast.Attribute) and above.func.attr == "join":
            if isinstance(above.func.value, ast.Constant):
                return
        self.fault("L23", node)


def package_sources():
    folder = os.path.join(TOP, PACKAGE)
    found = {}
    for name in sorted(os.listdir(folder)):
        if name == "__pycache__":
            continue
        with open(os.path.join(folder, name), encoding="utf-8", newline="") as file:
            found[name] = file.read()
    return found


def module_names(sources):
    return {PACKAGE + "." + name[:-3]: defined_names(ast.parse(source)) for name, source in sources.items()}


def all_methods(sources):
    return [method for source in sources.values() for method in class_methods(ast.parse(source))]


def drawn_from(source):
    return [node.module for node in ast.walk(ast.parse(source)) if isinstance(node, ast.ImportFrom)]


def faults_of(source):
    sources = package_sources()
    return [rule for rule, line in Form(source, module_names(sources), all_methods(sources)).found()]


class PackageForm(unittest.TestCase):
    def test_each_file_keeps_to_the_form(self):
        sources = package_sources()
        for name, source in sources.items():
            with self.subTest(file=name):
                self.assertEqual(Form(source, module_names(sources), all_methods(sources)).found(), [])

    def test_files_have_plain_names(self):
        names = list(package_sources())
        self.assertIn("__init__.py", names)
        for name in names:
            self.assertRegex(name, r"\A([a-z][a-z0-9_]*|__init__|__main__)\.py\Z")
            stem = name[:-3]
            self.assertNotIn(stem, NOT_FILES + NOT_WORDS + NOT_PARTS)
            self.assertFalse(stem.startswith("test_"), name)
            if not stem.startswith("__"):
                self.assertFalse(hasattr(builtins, stem), name)

    def test_no_name_is_a_method_here_and_a_value_there(self):
        fields = [field for source in package_sources().values() for field in stored_fields(ast.parse(source))]
        self.assertEqual(sorted(set(fields) & set(all_methods(package_sources()))), [])

    def test_no_two_files_draw_from_one_another(self):
        drawn = {PACKAGE + "." + name[:-3]: drawn_from(source) for name, source in package_sources().items()}
        while drawn:
            free = [name for name, others in drawn.items() if not any(other in drawn for other in others)]
            self.assertNotEqual(free, [], sorted(drawn))
            drawn = {name: others for name, others in drawn.items() if name not in free}

    def test_the_top_of_the_package_draws_from_nothing(self):
        self.assertEqual(drawn_from(package_sources()["__init__.py"]), [])


class FormItself(unittest.TestCase):
    """The checks above are worth something only if they find what they should."""

    def test_plain_code_passes(self):
        self.assertEqual(faults_of(
            '"""Some words."""\n\nfrom seatweave.ratios import ratio\n\nMOST = 3\n\n\ndef half(a):\n'
            '    found = [x for x in range(a) if x > 1]\n    found.append(a)\n'
            '    return ratio(sum(found), 2) if found else None\n'
        ), [])

    def test_what_is_outside_is_found(self):
        for rule, source in (
            ("L2", "from fractions import Fraction\n"), ("L2", "from .ratios import ratio\n"),
            ("L6 or L7", "import time\n"), ("L16", "from seatweave.rules import ratio\n"),
            ("L3", "MOST = len('abc')\n"), ("L3", "print(1)\n"),
            ("L4", "def f(*a):\n    return a\n"), ("L4", "@f\ndef f():\n    pass\n"),
            ("L5", "class A:\n    x = 1\n"), ("L6", "def f(a):\n    b, c = a\n    return b\n"),
            ("L6", "def f(a):\n    a\n"), ("L6 or L7", "def f(a):\n    assert a\n"),
            ("L6 or L7", "def f(a):\n    with a:\n        pass\n"), ("L7", "def f(a):\n    return a / 2\n"),
            ("L7", "def f():\n    return 0.5\n"), ("L6 or L7", "def f(a):\n    return (x for x in a)\n"),
            ("L8", "def f(a):\n    return open(a)\n"), ("L8", "def f(a):\n    return set(a)\n"),
            ("L10", "def f():\n" + "    f()\n" * 40), ("L10", "A = '" + "a" * 120 + "'\n"),
            ("L12", "def _f():\n    pass\n"), ("L14", "A = 1\t\n"), ("L15", "def f(hash):\n    return hash\n"),
            ("L15", "A = 1\nA = 2\n"), ("L17", "# its type\n"), ("L17", "def f(os):\n    return os\n"),
            ("L18", "class A:\n    def f(self):\n        pass\n\n    def f(self):\n        pass\n"),
            ("L19", "def f():\n    try:\n        f()\n    except Exception:\n        pass\n"),
            ("L19", "def f(e):\n    raise e\n"), ("L20", "def f(a, b):\n    return a is b\n"),
            ("L21", "def f(a: int):\n    return a\n"), ("L22", "def f(a):\n    return [len, a]\n"),
            ("L23", "def f(a):\n    b = range(a)\n    return b\n"), ("L25", "def f(a):\n    return a.sort()\n"),
            ("L26", "def f(a):\n    a.args = 1\n"), ("L27", "def f(a):\n    return 2 ** a\n"),
            ("L3", "A = []\nB = {A: 1}\n"), ("L15", "A = [1]\n"), ("L15", "A = ({1: 2}, 3)\n"),
            ("L12", "class A:\n    def __call__(self):\n        pass\n"),
            ("L18", "class Some:\n    pass\n\n\ndef f():\n    return [Some]\n"),
            ("L18", "class Some:\n    pass\n\n\ndef f():\n    Some.a = 1\n"),
            ("L19", "def f(a):\n    try:\n        f(a)\n    except ValueError:\n        pass\n"),
            ("L23", "def f(a):\n    for b in a:\n        a.append(b)\n"),
            ("L23", "def f(a):\n    for b, c in enumerate(a.x):\n        a.x[b] += 1\n"),
            ("L23", "def f(a):\n    for b, c in zip(a, list(a)):\n        a += [b]\n"),
            ("L23", "def f(a):\n    for b, c in a.items():\n        a[c] = b\n"),
            ("L25", "def f(a):\n    return a.append\n"), ("L6 or L7", "def f():\n    return lambda a: a\n"),
            ("L27", "A = 'a%b'\n"), ("L28", "class A:\n    def __init__(self):\n        return None\n"),
        ):
            with self.subTest(rule=rule, source=source):
                self.assertIn(rule, faults_of(source))


if __name__ == "__main__":
    unittest.main()

"""Those rules of LANGUAGE.md that can be seen from a file by itself; each finding tells its rule and line."""

import ast
import pathlib
import re
import unittest

PACKAGE = pathlib.Path(__file__).resolve().parent.parent / "whencewise"

BUILT_IN = dir(__builtins__) if not isinstance(__builtins__, dict) else list(__builtins__)
ALLOWED = """len range enumerate zip min max sum abs sorted reversed int str bool bytes list tuple dict set frozenset
    isinstance ord repr any all divmod Exception ValueError TypeError KeyError IndexError LookupError
    ZeroDivisionError ArithmeticError OverflowError RuntimeError NotImplementedError AttributeError
    StopIteration""".split()
DUNDERS = ["__init__", "__eq__", "__repr__", "__str__", "__len__"]
UNUSED = """register mro elements open input version_info with_traceback add_note format format_map attrgetter breakpoint
    builtins compile copyright credits delattr dir eval exec exit gc getattr globals hasattr help id importlib license
    locals methodcaller os quit setattr super vars sys""".split()
WORDS = re.compile(
    r"\b(type|typing|typing_extensions|enum|Enum|IntEnum|StrEnum|Flag|IntFlag|Generic|Protocol|ABC|ABCMeta|namedtuple"
    r"|NamedTuple|TypedDict|TYPE_CHECKING|abstractmethod)\b|dataclass|overload|contextmanager"
)
METHODS = """append clear copy count endswith extend find get index insert isalnum isalpha isdigit islower isspace isupper
    items join keys ljust lower lstrip partition pop remove replace reverse rfind rjust rpartition rsplit rstrip
    setdefault split splitlines startswith strip update upper values zfill bit_length title capitalize swapcase casefold
    center expandtabs removeprefix removesuffix rindex isascii isdecimal isnumeric istitle isidentifier isprintable
    encode decode hex fromhex to_bytes from_bytes translate maketrans sort add discard""".split()
PYTHONS_METHODS = {name for kind in (str, int, list, dict, set, bytes, tuple) for name in dir(kind)}
OUT = (
    ast.With, ast.AsyncWith, ast.AsyncFor, ast.AsyncFunctionDef, ast.Match, ast.Global, ast.Nonlocal, ast.Yield,
    ast.YieldFrom, ast.Await, ast.GeneratorExp, ast.NamedExpr, ast.Div, ast.MatMult, ast.Import,
)
AT_TOP = (ast.ImportFrom, ast.FunctionDef, ast.ClassDef, ast.Assign, ast.AnnAssign)


def row_faults(text):
    """Faults that are seen from the rows alone."""
    rows = text.split("\n")
    faults = ["L10 a file of more than 400 lines"] if len(rows) > 401 else []
    for at, row in enumerate(rows, start=1):
        if len(row) > 120:
            faults.append(f"L10 {at}: a line of more than 120 signs")
        if [sign for sign in row if not " " <= sign <= "~"]:
            faults.append(f"L14 {at}: a sign that isn't from the blank to ~")
        if WORDS.search(row):
            faults.append(f"L17 {at}: the word {WORDS.search(row).group()}")
    return faults


def import_faults(node):
    if node.module == "__future__":
        return []
    if node.level or not (node.module or "").startswith("whencewise."):
        return [f"L2 {node.lineno}: draws from elsewhere than the package's own files"]
    return [f"L2 {node.lineno}: draws all" for alias in node.names if alias.name == "*"]


def def_faults(node):
    faults = []
    if node.end_lineno - node.lineno + 1 > 40:
        faults.append(f"L10 {node.lineno}: a function of more than 40 lines")
    if node.decorator_list:
        faults.append(f"L4 {node.lineno}: a decorator")
    if node.args.vararg or node.args.kwarg or node.args.posonlyargs:
        faults.append(f"L4 {node.lineno}: *args, **kwargs or /")
    return faults


def class_faults(node):
    faults = []
    if node.decorator_list or node.keywords or len(node.bases) > 1:
        faults.append(f"L5 {node.lineno}: a decorator, a keyword or a second base")
    for inner in node.body:
        docstring = isinstance(inner, ast.Expr) and isinstance(inner.value, ast.Constant)
        if not docstring and not isinstance(inner, (ast.FunctionDef, ast.Pass)):
            faults.append(f"L5 {inner.lineno}: a class holds more than methods")
    return faults


def bound_names(node):
    """The names that a node gives or asks."""
    if isinstance(node, ast.Name):
        return [node.id]
    if isinstance(node, (ast.FunctionDef, ast.ClassDef)):
        return [node.name]
    if isinstance(node, ast.arg):
        return [node.arg]
    if isinstance(node, ast.Attribute):
        return [node.attr]
    return []


def name_faults(node):
    faults = []
    for name in bound_names(node):
        if name.startswith("_") and name not in DUNDERS + ["__all__", "__version__"]:
            faults.append(f"L12 {node.lineno}: {name}")
        if name in UNUSED:
            faults.append(f"L17 {node.lineno}: {name}")
    if isinstance(node, ast.Name) and node.id in BUILT_IN and node.id not in ALLOWED:
        faults.append(f"L8 {node.lineno}: {node.id}")
    if isinstance(node, ast.Name) and isinstance(node.ctx, ast.Store) and node.id in BUILT_IN:
        faults.append(f"L15 {node.lineno}: {node.id} is given another meaning")
    if isinstance(node, ast.arg) and node.arg in BUILT_IN:
        faults.append(f"L15 {node.lineno}: a parameter is called {node.arg}")
    if isinstance(node, ast.Attribute) and node.attr in PYTHONS_METHODS and node.attr not in METHODS + DUNDERS:
        faults.append(f"L25 {node.lineno}: .{node.attr}")
    return faults


def value_faults(node):
    if isinstance(node, ast.Constant) and isinstance(node.value, (float, complex)):
        return [f"L7 {node.lineno}: a number with a point"]
    if isinstance(node, ast.Constant) and isinstance(node.value, str) and "%" in node.value:
        return [f"L27 {node.lineno}: the sign % within a text"]
    if isinstance(node, ast.FormattedValue) and node.format_spec:
        return [f"L7 {node.lineno}: a format within an f-string"]
    if isinstance(node, ast.Compare):
        sides = [node.left] + node.comparators
        for at, sign in enumerate(node.ops):
            beside = [side for side in sides[at:at + 2] if isinstance(side, ast.Constant)]
            plain = [side for side in beside if side.value in (None, True, False) and not isinstance(side.value, str)]
            if isinstance(sign, (ast.Is, ast.IsNot)) and not plain:
                return [f"L20 {node.lineno}: is beside something else than None, True, False"]
    if isinstance(node, ast.ExceptHandler) and node.type is None:
        return [f"L6 {node.lineno}: except of no named class"]
    if isinstance(node, (ast.For, ast.While)) and node.orelse:
        return [f"L6 {node.lineno}: else behind a loop"]
    return []


def top_faults(tree):
    faults = []
    for at, node in enumerate(tree.body):
        docstring = at == 0 and isinstance(node, ast.Expr) and isinstance(node.value, ast.Constant)
        if not docstring and not isinstance(node, AT_TOP):
            faults.append(f"L3 {node.lineno}: something is done at the file's top")
    return faults


def shadow_faults(tree):
    """Parameters and locals that are called like a class or an import of their file."""
    drawn = [alias.asname or alias.name for node in tree.body if isinstance(node, ast.ImportFrom) for alias in node.names]
    taken = drawn + [node.name for node in tree.body if isinstance(node, ast.ClassDef)]
    faults = []
    for node in ast.walk(tree):
        given = isinstance(node, ast.arg) or (isinstance(node, ast.Name) and isinstance(node.ctx, ast.Store))
        faults += [f"L15 {node.lineno}: {name} is a class or an import" for name in bound_names(node) if given and name in taken]
    return faults


def is_set(node):
    made = isinstance(node, ast.Call) and isinstance(node.func, ast.Name) and node.func.id in ("set", "frozenset")
    return made or isinstance(node, (ast.Set, ast.SetComp))


def asks_a_set(node, above):
    """Whether a set may stand, or be named, straight within this node."""
    called = isinstance(above, ast.Call) and node in above.args and isinstance(above.func, ast.Name)
    return (called and above.func.id in ("sorted", "len")) or isinstance(above, ast.Compare)


def set_faults(tree):
    """Sets that stand elsewhere than where they are asked on the spot or kept by a local."""
    above = {inner: node for node in ast.walk(tree) for inner in ast.iter_child_nodes(node)}
    faults = []
    for node in ast.walk(tree):
        if not is_set(node):
            continue
        outer = node
        while isinstance(above[outer], ast.BinOp):
            outer = above[outer]
        place = above[outer]
        kept = outer is node and isinstance(place, ast.Assign) and isinstance(place.targets[0], ast.Name)
        if not kept and not asks_a_set(outer, place):
            faults.append(f"L24 {node.lineno}: a set is neither asked on the spot nor kept by a local")
    return faults + kept_set_faults(tree, above)


def kept_set_faults(tree, above):
    faults = []
    for define in [node for node in ast.walk(tree) if isinstance(node, ast.FunctionDef)]:
        inner = list(ast.walk(define))
        kept = [node.targets[0].id for node in inner if isinstance(node, ast.Assign) and is_set(node.value)]
        for node in inner:
            if isinstance(node, ast.Name) and isinstance(node.ctx, ast.Load) and node.id in kept:
                place = above[node]
                changed = isinstance(place, ast.Attribute) and place.attr in ("add", "discard")
                truth = isinstance(place, (ast.If, ast.While, ast.Assert, ast.UnaryOp))
                if not changed and not truth and not asks_a_set(node, place):
                    faults.append(f"L24 {node.lineno}: the set {node.id} is handed on or walked")
    return faults


def once_walked_faults(tree):
    """What is to be walked on the spot, and is given to a name or given back."""
    faults = []
    for node in ast.walk(tree):
        if isinstance(node, (ast.Assign, ast.Return)) and isinstance(node.value, ast.Call):
            deed = node.value.func
            name = deed.id if isinstance(deed, ast.Name) else getattr(deed, "attr", "")
            if name in ("zip", "enumerate", "reversed", "range", "items", "keys", "values"):
                faults.append(f"L23 {node.lineno}: {name} is kept")
    return faults


def faults_of(text):
    """The findings of one file's text."""
    tree = ast.parse(text)
    faults = row_faults(text) + top_faults(tree) + shadow_faults(tree) + set_faults(tree) + once_walked_faults(tree)
    for node in ast.walk(tree):
        if isinstance(node, OUT):
            faults.append(f"L2, L6, L7 {getattr(node, 'lineno', 0)}: {node.__class__.__name__}")
        if isinstance(node, ast.ImportFrom):
            faults += import_faults(node)
        if isinstance(node, ast.FunctionDef):
            faults += def_faults(node)
        if isinstance(node, ast.ClassDef):
            faults += class_faults(node)
        faults += name_faults(node) + value_faults(node)
    return faults


def drawn_from(path):
    """The package's files, by their stems, that a file draws from."""
    tree = ast.parse(path.read_text(encoding="utf-8"))
    modules = [node.module for node in tree.body if isinstance(node, ast.ImportFrom)]
    return [module.split(".", 1)[1] for module in modules if module.startswith("whencewise.")]


def defined_in(path):
    """The names that a file's top defines itself."""
    names = []
    for node in ast.parse(path.read_text(encoding="utf-8")).body:
        if isinstance(node, (ast.FunctionDef, ast.ClassDef)):
            names.append(node.name)
        if isinstance(node, ast.Assign):
            names += [target.id for target in node.targets if isinstance(target, ast.Name)]
    return names


class Package(unittest.TestCase):
    def files(self):
        return sorted(PACKAGE.glob("*.py"))

    def test_nothing_else_lies_in_the_package(self):
        others = [path.name for path in PACKAGE.iterdir() if path.suffix != ".py" and path.name != "__pycache__"]
        self.assertEqual(others, [])
        self.assertTrue((PACKAGE / "__init__.py").is_file())

    def test_plain_file_names(self):
        for path in self.files():
            self.assertRegex(path.name, r"\A([a-z][a-z0-9_]*|__init__|__main__)\.py\Z")
            self.assertFalse(path.name.startswith("test"), path.name)

    def test_each_file_keeps_to_the_rules(self):
        self.assertNotEqual(self.files(), [])
        for path in self.files():
            with self.subTest(file=path.name):
                self.assertEqual(faults_of(path.read_text(encoding="utf-8")), [])

    def test_no_two_files_draw_from_one_another(self):
        left = {path.stem: drawn_from(path) for path in self.files()}
        while left:
            free = [stem for stem, drawn in left.items() if not [one for one in drawn if one in left]]
            self.assertNotEqual(free, [], f"L16: drawn in a ring: {sorted(left)}")
            for stem in free:
                del left[stem]


    def test_each_name_is_drawn_from_the_file_that_defines_it(self):
        for path in self.files():
            for node in ast.parse(path.read_text(encoding="utf-8")).body:
                if isinstance(node, ast.ImportFrom):
                    source = PACKAGE / (node.module.split(".", 1)[1] + ".py")
                    for alias in node.names:
                        self.assertIn(alias.name, defined_in(source), f"L16 {path.name} {node.lineno}")

    def test_each_name_is_bound_once(self):
        for path in self.files():
            names = defined_in(path)
            self.assertEqual(len(set(names)), len(names), f"L15 {path.name}")

    def test_no_name_is_a_method_and_a_value(self):
        methods, values = set(), set()
        for path in self.files():
            for node in ast.walk(ast.parse(path.read_text(encoding="utf-8"))):
                if isinstance(node, ast.ClassDef):
                    methods |= {inner.name for inner in node.body if isinstance(inner, ast.FunctionDef)}
                if isinstance(node, ast.Attribute) and isinstance(node.ctx, ast.Store):
                    values.add(node.attr)
        self.assertEqual(methods & values, set(), "L18")
        self.assertEqual((methods | values) & PYTHONS_METHODS - set(DUNDERS), set(), "L26")


class Findings(unittest.TestCase):
    """The look-out itself finds what it is there for."""

    def test_what_keeps_to_the_rules(self):
        text = '"""A file."""\n\nMANY = 3\n\n\ndef doubled(numbers):\n    return [2 * number for number in numbers]\n'
        self.assertEqual(faults_of(text), [])

    def test_what_breaks_one(self):
        for rule, text in [
            ("L2", "import math\n"), ("L2", "from math import gcd\n"), ("L2", "from whencewise.names import *\n"),
            ("L2", "from .names import is_name\n"), ("L3", "print(1)\n"), ("L3", "for one in [1]:\n    pass\n"),
            ("L4", "def one(*many):\n    return many\n"), ("L5", "class One:\n    two = 2\n"),
            ("L7", "def one(xs):\n    return all(x for x in xs)\n"), ("L7", "HALF = 0.5\n"),
            ("L7", "def half(one):\n    return one / 2\n"), ("L8", "def one(x):\n    return hash(x)\n"),
            ("L10", "# " + "a" * 119 + "\n"), ("L10", "\n" * 401), ("L14", "# \u00e4\n"), ("L14", "# \t\n"),
            ("L10", "def one(x):\n" + "    x += 1\n" * 40), ("L12", "def one():\n    _two = 2\n"),
            ("L15", "def one(hash):\n    return 1\n"), ("L17", "# its type\n"), ("L17", "def exit():\n    return 1\n"),
            ("L20", "def one(x, y):\n    return x is y\n"), ("L25", "def one(x):\n    return x.format(1)\n"),
            ("L25", "def one(x):\n    return x.intersection(x)\n"), ("L27", "SIGN = '%'\n"),
            ("L6", "def one(x):\n    try:\n        return x[0]\n    except:\n        return 0\n"),
            ("L15", "from whencewise.names import is_name\n\n\ndef one(is_name):\n    return 1\n"),
            ("L15", "class One:\n    pass\n\n\ndef two():\n    One = 1\n    return One\n"),
            ("L23", "def one(xs):\n    return zip(xs, xs)\n"), ("L23", "def one(d):\n    xs = d.items()\n    return list(xs)\n"),
            ("L24", "def one(xs):\n    return set(xs)\n"), ("L24", "def one(xs):\n    return tuple(set(xs))\n"),
            ("L24", "def one(xs):\n    seen = set(xs)\n    return [x for x in seen]\n"),
            ("L24", "def one(xs):\n    return [x for x in {y for y in xs}]\n"),
            ("L24", "def one(xs):\n    seen = set()\n    seen.update(xs)\n    return sorted(seen)\n"),
            ("L6", "def one(x):\n    while x:\n        x -= 1\n    else:\n        x = 2\n    return x\n"),
        ]:
            with self.subTest(text=text[:60]):
                self.assertIn(rule, " ".join(faults_of(text)).replace(",", " ").split())


if __name__ == "__main__":
    unittest.main()

"""That the package keeps to the rules of its language, as far as its text shows it."""

import ast
import builtins
import pathlib
import re
import unittest

PACKAGE = pathlib.Path(__file__).resolve().parent.parent / "overlaid"

OWN_NAMES = set(
    "len range enumerate zip min max sum abs sorted reversed int str bool bytes list tuple dict set frozenset "
    "isinstance ord repr any all divmod Exception ValueError TypeError KeyError IndexError LookupError "
    "ZeroDivisionError ArithmeticError OverflowError RuntimeError NotImplementedError AttributeError "
    "StopIteration".split()
)
METHODS = set(
    "append clear copy count endswith extend find get index insert isalnum isalpha isdigit islower isspace isupper "
    "items join keys ljust lower lstrip partition pop remove replace reverse rfind rjust rpartition rsplit rstrip "
    "setdefault split splitlines startswith strip update upper values zfill bit_length sort add discard title "
    "capitalize swapcase casefold center expandtabs removeprefix removesuffix rindex isascii isdecimal isnumeric "
    "istitle isidentifier isprintable translate encode decode hex fromhex to_bytes from_bytes __init__".split()
)
SPECIAL = {"__init__", "__eq__", "__repr__", "__str__", "__len__"}
UNUSED = set(
    "register mro elements open input version_info with_traceback add_note attrgetter breakpoint builtins compile "
    "copyright credits delattr dir eval exec exit gc getattr globals hasattr help id importlib license locals "
    "methodcaller os quit setattr super type vars sys chr print format format_map".split()
)
BARRED = re.compile(
    r"\b(type|typing|typing_extensions|enum|Enum|IntEnum|StrEnum|Flag|IntFlag|Generic|Protocol|ABC|ABCMeta|namedtuple"
    r"|NamedTuple|TypedDict|TYPE_CHECKING|abstractmethod)\b|dataclass|overload|contextmanager"
)
NODES = set(
    "Module FunctionDef ClassDef Return Delete Assign AugAssign AnnAssign For While If Raise Try Assert ImportFrom "
    "Expr Pass Break Continue BoolOp BinOp UnaryOp Lambda IfExp Dict Set ListComp SetComp DictComp Compare Call "
    "FormattedValue JoinedStr Constant Attribute Subscript Starred Name List Tuple Slice Load Store Del And Or Add "
    "Sub Mult Mod Pow LShift RShift BitOr BitXor BitAnd FloorDiv Invert Not UAdd USub Eq NotEq Lt LtE Gt GtE Is "
    "IsNot In NotIn comprehension ExceptHandler arguments arg keyword alias".split()
)
TOP_NODES = (ast.Expr, ast.ImportFrom, ast.FunctionDef, ast.ClassDef, ast.Assign, ast.AnnAssign)
KEYWORDS = {
    "sorted": {"key", "reverse"},
    "min": {"key", "default"},
    "max": {"key", "default"},
    "sum": {"start"},
    "enumerate": {"start"},
    "zip": {"strict"},
}
READERS = {"get", "items", "keys", "values", "index", "count", "copy"}
FREE_VALUES = set("count index title find get join lower upper split strip copy add".split())
FREE_METHODS = METHODS - set("encode decode hex fromhex to_bytes from_bytes".split())
OF_PYTHON = {name for one in (str, int, list, dict, set, bytes, tuple) for name in dir(one)}
WALKED = {"range", "zip", "enumerate", "reversed"}
WALKERS = {"list", "tuple", "dict", "sorted", "sum", "any", "all", "enumerate", "zip", "bytes", "min", "max"}


def faults_of_rows(source):
    rows = source.split("\n")
    if len(rows) > 401:
        yield "L10 file of more than 400 rows"
    for number, row in enumerate(rows, 1):
        if len(row) > 120:
            yield f"L10 row {number} is too long"
        if re.search(r"[^ -~]", row):
            yield f"L14 row {number} has a sign outside the blank to ~"
        if BARRED.search(row):
            yield f"L17 row {number} has a word that stands nowhere"
        if re.search(r"\\[^nt\\'\"]", row) or row.endswith("\\"):
            yield f"L27 row {number} has another escape"


def bound_names(tree):
    """Every name that the file gives: defs, classes, parameters, locals, imports, handlers."""
    for node in ast.walk(tree):
        if isinstance(node, (ast.FunctionDef, ast.ClassDef)):
            yield node.name
        elif isinstance(node, ast.arg):
            yield node.arg
        elif isinstance(node, ast.Name) and not isinstance(node.ctx, ast.Load):
            yield node.id
        elif isinstance(node, ast.alias):
            yield node.asname or node.name
        elif isinstance(node, ast.ExceptHandler) and node.name:
            yield node.name


def top_names(tree):
    for node in tree.body:
        if isinstance(node, (ast.FunctionDef, ast.ClassDef)):
            yield node.name
        elif isinstance(node, ast.ImportFrom):
            yield from (alias.asname or alias.name for alias in node.names)
        elif isinstance(node, ast.Assign):
            yield from (one.id for target in node.targets for one in ast.walk(target) if isinstance(one, ast.Name))
        elif isinstance(node, ast.AnnAssign):
            yield node.target.id


def local_names(tree):
    """Parameters and names that are given within defs."""
    for deed in ast.walk(tree):
        if isinstance(deed, (ast.FunctionDef, ast.Lambda)):
            for node in ast.walk(deed):
                if isinstance(node, ast.arg):
                    yield node.arg
                elif isinstance(node, ast.Name) and isinstance(node.ctx, ast.Store):
                    yield node.id
                elif isinstance(node, ast.FunctionDef) and node is not deed:
                    yield node.name


def faults_of_names(tree):
    bound = set(bound_names(tree))
    for name in bound - SPECIAL:
        if not re.fullmatch(r"[A-Za-z][A-Za-z0-9_]*", name):
            yield f"L12 the name {name}"
        if name in UNUSED or name in OWN_NAMES:
            yield f"L8 or L17 the name {name}"
    for node in ast.walk(tree):
        if isinstance(node, ast.Name) and node.id not in bound | OWN_NAMES:
            yield f"L8 the name {node.id} in row {node.lineno}"
    tops = list(top_names(tree))
    for name in set(tops):
        if tops.count(name) > 1:
            yield f"L15 {name} is bound twice"
    drawn = {alias.asname or alias.name for row in tree.body if isinstance(row, ast.ImportFrom) for alias in row.names}
    classes = {row.name for row in tree.body if isinstance(row, ast.ClassDef)}
    for name in set(local_names(tree)):
        if name in drawn | classes or name in dir(builtins):
            yield f"L15 the local {name}"


def faults_of_imports(tree, modules):
    for node in ast.walk(tree):
        if isinstance(node, ast.ImportFrom):
            if node not in tree.body:
                yield f"L2 an import within, row {node.lineno}"
            if node.level or node.module not in modules:
                yield f"L2 an import from {node.module}"
            else:
                for alias in node.names:
                    if alias.name not in modules[node.module]:
                        yield f"L16 {alias.name} is not defined in {node.module}"


def faults_of_deed(node):
    if node.end_lineno - node.lineno + 1 > 40:
        yield f"L10 {node.name} has more than 40 rows"
    if node.decorator_list:
        yield f"L4 {node.name} has a decorator"
    if node.name.startswith("__") and node.name not in SPECIAL:
        yield f"L5 the method {node.name}"
    handed = node.args
    if handed.vararg or handed.kwarg or handed.posonlyargs:
        yield f"L4 {node.name} has parameters that aren't plain"
    for value in [*handed.defaults, *(one for one in handed.kw_defaults if one)]:
        if any(isinstance(one, (ast.List, ast.Dict, ast.Call, ast.Set)) for one in ast.walk(value)):
            yield f"L4 {node.name} has a default that isn't plain"


def faults_of_class(node):
    if len(node.bases) > 1 or node.keywords or node.decorator_list:
        yield f"L5 the class {node.name}"
    for row in node.body:
        docstring = isinstance(row, ast.Expr) and isinstance(row.value, ast.Constant)
        if not (docstring or isinstance(row, (ast.FunctionDef, ast.Pass))):
            yield f"L5 row {row.lineno} of the class {node.name}"


def faults_of_value(node):
    if isinstance(node, ast.Constant):
        if not (node.value is None or isinstance(node.value, (bool, int, str, bytes))):
            yield f"L7 the value {node.value!r}"
        if isinstance(node.value, str) and "%" in node.value:
            yield f"L27 a text with the sign of hundredths, row {node.lineno}"
    if isinstance(node, ast.BinOp) and isinstance(node.op, ast.Pow):
        if not (isinstance(node.right, ast.Constant) and node.right.value in range(65)):
            yield f"L27 a power, row {node.lineno}"
    if isinstance(node, ast.Compare):
        for deed, right in zip(node.ops, node.comparators):
            plain = isinstance(right, ast.Constant) and any(right.value is one for one in (None, True, False))
            if isinstance(deed, (ast.Is, ast.IsNot)) and not plain:
                yield f"L20 row {node.lineno}"
    if isinstance(node, (ast.For, ast.While)) and node.orelse:
        yield f"L6 an else behind a loop, row {node.lineno}"
    if isinstance(node, ast.ExceptHandler):
        caught = {one.id for one in ast.walk(node.type) if isinstance(one, ast.Name)} if node.type else {"Exception"}
        if caught & {"Exception", "TypeError"}:
            yield f"L19 the handler in row {node.lineno}"
    if isinstance(node, ast.FormattedValue) and node.format_spec:
        yield f"L7 a format, row {node.lineno}"


def called(node):
    return node.func.id if isinstance(node, ast.Call) and isinstance(node.func, ast.Name) else None


def faults_of_walks(node):
    """A range and its like is walked on the spot; a set isn't walked."""
    spots = []
    if isinstance(node, (ast.For, ast.comprehension)):
        spots = [node.iter]
        if called(node.iter) in {"set", "frozenset"} or isinstance(node.iter, (ast.Set, ast.SetComp)):
            yield "L24 a set is walked"
    elif called(node) in WALKERS or called(node) == "reversed" or called(node) == "len":
        spots = [one for one in node.args if called(one) == "range"]
        if called(node) in WALKERS:
            spots = node.args
    elif isinstance(node, ast.Compare):
        spots = [one for one in node.comparators if called(one) == "range"]
    elif isinstance(node, ast.Call) and isinstance(node.func, ast.Attribute) and node.func.attr == "join":
        spots = node.args
    for child in ast.iter_child_nodes(node):
        if called(child) in WALKED and child not in spots:
            yield f"L23 {called(child)} is kept, row {child.lineno}"


def faults_of_attribute(node, own):
    if node.attr.startswith("_") and node.attr not in SPECIAL:
        yield f"L12 .{node.attr} in row {node.lineno}"
    if node.attr in UNUSED or (node.attr not in METHODS and node.attr not in own):
        yield f"L17 or L25 .{node.attr} in row {node.lineno}"


def faults_of_raise(node):
    """An error is made on the spot, by its class's own name, or goes on bare."""
    made = node.exc
    if made is not None and not (called(made) and called(made)[0].isupper()):
        yield f"L19 the raise in row {node.lineno}"
    if called(made):
        if made.keywords or not all(isinstance(one, (ast.Constant, ast.JoinedStr)) for one in made.args):
            yield f"L22 the error in row {node.lineno} is handed something else than texts by place"


def faults_of_keywords(node):
    allowed = KEYWORDS.get(called(node), set())
    if isinstance(node.func, ast.Attribute) and node.func.attr in METHODS or called(node) in OWN_NAMES:
        for one in node.keywords:
            if one.arg not in allowed:
                yield f"L22 the keyword {one.arg} in row {node.lineno}"


def kept_at_top(tree):
    """The names of the file's top that are given a list or a dict."""
    for row in tree.body:
        if isinstance(row, ast.Assign) and isinstance(row.value, (ast.List, ast.Dict)):
            yield from (target.id for target in row.targets if isinstance(target, ast.Name))
            inner = [*ast.iter_child_nodes(row.value)]
            if any(isinstance(one, (ast.List, ast.Dict, ast.Set)) for one in inner):
                yield "a list within a list"


def read_at(node):
    """The things that this step only reads."""
    if isinstance(node, ast.Subscript) and isinstance(node.ctx, ast.Load):
        yield node.value
    elif isinstance(node, ast.Compare):
        yield from node.comparators
        yield node.left
    elif isinstance(node, (ast.For, ast.comprehension)):
        yield node.iter
    elif called(node) in OWN_NAMES:
        yield from node.args
    elif isinstance(node, ast.Attribute) and node.attr in READERS:
        yield node.value


def faults_of_tops(tree):
    kept = set(kept_at_top(tree))
    if "a list within a list" in kept:
        yield "L15 a list within a list of the file's top"
    read = {id(one) for node in ast.walk(tree) for one in read_at(node)}
    for node in ast.walk(tree):
        if isinstance(node, ast.Name) and isinstance(node.ctx, ast.Load) and node.id in kept and id(node) not in read:
            yield f"L15 {node.id} is more than read in row {node.lineno}"


def faults_of_objects(tree):
    """Methods and values: none is both, none is called like what Python's own values have, no class is handed on."""
    classes = {row.name: row for row in tree.body if isinstance(row, ast.ClassDef)}
    methods = {one.name for row in classes.values() for one in row.body if isinstance(one, ast.FunctionDef)}
    values = {one.attr for one in ast.walk(tree) if isinstance(one, ast.Attribute) and isinstance(one.ctx, ast.Store)}
    for name in methods & values:
        yield f"L18 {name} is a method and a value"
    for name in (values - FREE_VALUES | methods - FREE_METHODS - SPECIAL) & OF_PYTHON:
        yield f"L26 the method or value {name}"
    allowed = set()
    for node in ast.walk(tree):
        if isinstance(node, ast.Call):
            allowed.add(id(node.func))
            if called(node) == "isinstance":
                allowed.update(id(one) for one in ast.walk(node.args[1]))
        elif isinstance(node, ast.ClassDef):
            allowed.update(id(one) for one in node.bases)
        elif isinstance(node, ast.ExceptHandler) and node.type:
            allowed.update(id(one) for one in ast.walk(node.type))
    for node in ast.walk(tree):
        if isinstance(node, ast.Name) and node.id in classes and id(node) not in allowed:
            yield f"L18 the class {node.id} is handed on in row {node.lineno}"


def faults_of_tree(tree, modules):
    for row in tree.body:
        if not isinstance(row, TOP_NODES):
            yield f"L3 row {row.lineno}"
        elif isinstance(row, ast.Expr) and not (isinstance(row.value, ast.Constant) and row is tree.body[0]):
            yield f"L3 row {row.lineno}"
    given = {node.attr for node in ast.walk(tree) if isinstance(node, ast.Attribute) and isinstance(node.ctx, ast.Store)}
    own = given | {node.name for node in ast.walk(tree) if isinstance(node, ast.FunctionDef)}
    yield from faults_of_names(tree)
    yield from faults_of_imports(tree, modules)
    yield from faults_of_tops(tree)
    yield from faults_of_objects(tree)
    for node in ast.walk(tree):
        if node.__class__.__name__ not in NODES:
            yield f"L6 or L7 {node.__class__.__name__} in row {getattr(node, 'lineno', '?')}"
        if isinstance(node, ast.FunctionDef):
            yield from faults_of_deed(node)
        if isinstance(node, ast.ClassDef):
            yield from faults_of_class(node)
        if isinstance(node, ast.Attribute):
            yield from faults_of_attribute(node, own)
        if isinstance(node, ast.Raise):
            yield from faults_of_raise(node)
        if isinstance(node, ast.Call):
            yield from faults_of_keywords(node)
        yield from faults_of_value(node)
        yield from faults_of_walks(node)


def faults(source, modules):
    found = list(faults_of_rows(source))
    try:
        tree = ast.parse(source)
    except SyntaxError as wrong:
        return [*found, f"no Python: {wrong}"]
    return [*found, *faults_of_tree(tree, modules)]


def package_sources():
    return {path: path.read_bytes().decode("ascii") for path in sorted(PACKAGE.rglob("*.py"))}


def module_names():
    """For each of the package's modules the names that it defines itself."""
    found = {}
    for path, source in package_sources().items():
        defined = set()
        for row in ast.parse(source).body:
            if not isinstance(row, ast.ImportFrom):
                defined |= set(top_names(ast.Module(body=[row], type_ignores=[])))
        found[f"overlaid.{path.stem}"] = defined
    return found


GOOD = '''"""A file."""

from overlaid.errors import NoSign

WIDTH = 3


def double(many):
    """A deed that is called by its name in a row."""
    return many * 2


DEEDS = {"double": double}
ROWS = [(1, 2), (3, 4)]


class Box:
    """A box."""

    def __init__(self):
        self.rows = [1]

    def tell(self, row):
        """An answer."""
        if row in DEEDS and len(ROWS) > 1:
            told = DEEDS[row]
            return told(self.rows[0])
        if not isinstance(row, Box):
            raise NoSign(f"no row {row}")
        return list(ROWS)


def deed(text, many=WIDTH):
    """A deed."""
    found = [at for at in range(many) if at not in text]
    for one, other in zip(found, reversed(found)):
        if one is None and other < len(range(many)):
            raise NoSign("why")
    text.append(sorted(found, key=lambda one: -one)[0])
    return f"{many} of {Box().rows}"
'''

BAD = (
    "import re",
    "from re import sub",
    "from overlaid.errors import *",
    "from .errors import NoSign",
    "from overlaid.errors import Nobody",
    "from overlaid.borders import NoSign",
    "from overlaid.errors import NoSign\nNoSign = 1",
    "def deed():\n    from overlaid.errors import NoSign",
    "print(1)",
    "for at in (1, 2):\n    pass",
    "def deed(*rest):\n    pass",
    "def deed(**rest):\n    pass",
    "def deed(a, /):\n    pass",
    "def deed(a=[]):\n    pass",
    "def deed(list):\n    pass",
    "def deed():\n    next = 1",
    "def deed(_at):\n    pass",
    "def deed(xs):\n    return (x for x in xs)",
    "def deed(xs):\n    yield xs",
    "def deed(xs):\n    return 1 / 2",
    "def deed(xs):\n    return 1.5",
    "def deed(xs):\n    return 2 ** xs",
    "def deed(xs):\n    return 'a % b'",
    "def deed(xs):\n    return xs is 3",
    "def deed(xs):\n    if (k := 3):\n        return k",
    "def deed(xs):\n    with xs:\n        pass",
    "def deed(xs):\n    global k",
    "def deed(xs):\n    for x in xs:\n        pass\n    else:\n        pass",
    "def deed(xs):\n    return f'{xs:3}'",
    "def deed(xs):\n    return hash(xs)",
    "def deed(xs):\n    return chr(xs)",
    "def deed(xs):\n    return map(deed, xs)",
    "def deed(xs):\n    return xs.sorted_in()",
    "def deed(xs):\n    return xs.format()",
    "def deed(xs):\n    k = range(xs)\n    return k",
    "def deed(xs):\n    return reversed(xs)",
    "def deed(xs):\n    return [x for x in set(xs)]",
    "def deed(xs):\n    try:\n        return xs\n    except Exception:\n        return 1",
    "def deed(xs):\n    try:\n        return xs\n    except:\n        return 1",
    "def deed(xs):\n    return 1 # \u00e9",
    "def deed(xs):\n\treturn 1",
    "def deed(xs):\n    return 1 # a type",
    "def deed(xs):\n    return '\\x41'",
    "def deed(xs):\n    return 1" + " + 1" * 40,
    "def deed(xs):\n" + "    xs += 1\n" * 40,
    "class Box:\n    width = 3",
    "class Box(list, dict):\n    pass",
    "class Box:\n    def __hash__(self):\n        return 1",
    "def deed(xs):\n    xs.__class__ = 3",
    "def deed():\n    pass\ndef deed():\n    pass",
    "def deed(wrong):\n    raise wrong",
    "def deed(wrong):\n    raise wrong('a')",
    "def deed(wrong):\n    raise ValueError(wrong)",
    "def deed(xs):\n    return min(xs, start=1)",
    "def deed(xs):\n    return xs.split(sep=',')",
    "ROWS = [1]\n\n\ndef deed():\n    ROWS.append(2)",
    "ROWS = [1]\n\n\ndef deed():\n    return ROWS",
    "ROWS = {1: 2}\n\n\ndef deed():\n    ROWS[1] = 3",
    "ROWS = {1: 2}\n\n\ndef deed(at):\n    at(ROWS)",
    "ROWS = [[1], [2]]",
    "class Box:\n    def many(self):\n        self.many = 3",
    "class Box:\n    def __init__(self):\n        self.pop = 3",
    "class Box:\n    def decode(self):\n        pass",
    "class Box:\n    pass\n\n\ndef deed():\n    return [Box]",
)


class Language(unittest.TestCase):
    def test_every_file_keeps_to_the_rules(self):
        modules = module_names()
        self.assertTrue(modules)
        for path, source in package_sources().items():
            self.assertEqual(faults(source, modules), [], path.name)

    def test_nothing_else_lies_in_the_package(self):
        for path in PACKAGE.rglob("*"):
            if "__pycache__" not in path.parts:
                self.assertRegex(path.name, r"^([a-z][a-z0-9_]*|__init__|__main__)\.py$")
                self.assertNotRegex(path.name, r"^(law_|test|site|conftest)")
                self.assertNotIn(path.stem, dir(builtins))
        self.assertTrue((PACKAGE / "__init__.py").is_file())

    def test_rows_end_with_a_line_feed_alone(self):
        for path, source in package_sources().items():
            self.assertNotIn("\r", source)
            self.assertTrue(source.endswith("\n"), path.name)

    def test_no_two_files_draw_from_one_another(self):
        drawn = {}
        for path, source in package_sources().items():
            rows = [row for row in ast.parse(source).body if isinstance(row, ast.ImportFrom)]
            drawn[f"overlaid.{path.stem}"] = {row.module for row in rows}
        # Whatever draws from a file of the package draws from its __init__ too.
        self.assertEqual(drawn.pop("overlaid.__init__"), set())
        while drawn:
            free = [name for name in drawn if not drawn[name] & set(drawn)]
            self.assertTrue(free, f"these draw from one another: {sorted(drawn)}")
            for name in free:
                del drawn[name]

    def test_the_check_lets_good_rows_through(self):
        self.assertEqual(faults(GOOD, module_names()), [])

    def test_the_check_sees_bad_rows(self):
        modules = module_names()
        for source in BAD:
            self.assertNotEqual(faults(source + "\n", modules), [], source)
        self.assertNotEqual(faults("WIDTH = 3\n\n" + "\n" * 400, modules), [])


if __name__ == "__main__":
    unittest.main()

"""A check of the rules of LANGUAGE.md that a simple look at a file can hold."""

import ast
import builtins
import re

PACKAGE = "netfinder"

NAMES = set(
    "len range enumerate zip min max sum abs sorted reversed int str bool list tuple dict set frozenset "
    "isinstance ord repr any all divmod Exception ValueError TypeError KeyError IndexError LookupError "
    "ZeroDivisionError ArithmeticError OverflowError RuntimeError NotImplementedError AttributeError "
    "StopIteration".split()
)
METHODS = set(
    "append clear copy count endswith extend find get index insert isalnum isalpha isdigit islower isspace "
    "isupper items join keys ljust lower lstrip partition pop remove replace reverse rfind rjust rpartition "
    "rsplit rstrip setdefault split splitlines startswith strip update upper values zfill bit_length".split()
)
WALKED = set("zip enumerate reversed range items keys values".split())
WALKERS = set("list tuple dict sorted sum any all enumerate zip".split())
CHANGERS = set("append clear extend insert pop remove reverse setdefault update".split())
OWN_METHODS = set("__init__ __eq__ __repr__ __str__ __len__".split())
NEVER_NAMES = set(
    "register mro elements open input version_info with_traceback add_note format format_map chr attrgetter "
    "breakpoint builtins compile copyright credits delattr dir eval exec exit gc getattr globals hasattr help "
    "id importlib license locals methodcaller os quit setattr super sys type vars __name__".split()
)
NEVER_WORDS = re.compile(
    r"\b(type|typing|typing_extensions|enum|Enum|IntEnum|StrEnum|Flag|IntFlag|Generic|Protocol|ABC|ABCMeta"
    r"|namedtuple|NamedTuple|TypedDict|TYPE_CHECKING|abstractmethod)\b|dataclass|overload|contextmanager"
)
NEVER_FILES = set("test tests testing site conftest sitecustomize usercustomize".split())
PLAIN_NAME = re.compile(r"[A-Za-z][A-Za-z0-9_]*")
FILE_NAME = re.compile(r"[a-z][a-z0-9_]*\.py")

STATEMENTS = (
    ast.Assign, ast.AugAssign, ast.If, ast.While, ast.For, ast.Return, ast.Break, ast.Continue, ast.Pass,
    ast.Raise, ast.Try, ast.Expr, ast.FunctionDef, ast.ClassDef, ast.ImportFrom,
)
EXPRESSIONS = (
    ast.Constant, ast.List, ast.Tuple, ast.Dict, ast.Set, ast.BinOp, ast.UnaryOp, ast.BoolOp, ast.Compare,
    ast.IfExp, ast.Call, ast.Attribute, ast.Subscript, ast.Slice, ast.ListComp, ast.JoinedStr,
    ast.FormattedValue, ast.Name, ast.Lambda,
)
KEYWORDS = {
    "sorted": ("key", "reverse"), "min": ("key", "default"), "max": ("key", "default"), "sum": ("start",),
    "enumerate": ("start",), "zip": ("strict",),
}


def row_faults(source):
    rows = source.split("\n")
    faults = [("L10", number) for number, row in enumerate(rows, 1) if len(row) > 120]
    faults += [("L14", number) for number, row in enumerate(rows, 1) if any(not " " <= s <= "~" for s in row)]
    faults += [("L17", number) for number, row in enumerate(rows, 1) if NEVER_WORDS.search(row)]
    if len(source.splitlines()) > 400:
        faults.append(("L10", 401))
    return faults


def import_faults(node):
    if node.level or any(alias.name == "*" for alias in node.names):
        return [("L2", node.lineno)]
    if node.module != "__future__" and not node.module.startswith(PACKAGE + "."):
        return [("L2", node.lineno)]
    return []


def function_faults(node):
    asked = node.args
    faults = []
    if asked.vararg or asked.kwarg or asked.kwonlyargs or asked.posonlyargs:
        faults.append(("L4", node.lineno))
    if isinstance(node, ast.FunctionDef):
        if node.decorator_list:
            faults.append(("L4", node.lineno))
        if node.end_lineno - node.lineno + 1 > 40:
            faults.append(("L10", node.lineno))
        if node.returns or any(one.annotation for one in asked.args):
            faults.append(("L21", node.lineno))
    return faults


def class_faults(node):
    if node.decorator_list or node.keywords or len(node.bases) > 1:
        return [("L5", node.lineno)]
    return [("L5", one.lineno) for one in node.body if not isinstance(one, (ast.FunctionDef, ast.Pass))]


def statement_faults(node):
    if not isinstance(node, STATEMENTS):
        return [("L6", node.lineno)]
    if isinstance(node, ast.Assign) and len(node.targets) != 1:
        return [("L6", node.lineno)]
    if isinstance(node, (ast.For, ast.While)) and node.orelse:
        return [("L6", node.lineno)]
    if isinstance(node, ast.Expr) and not isinstance(node.value, ast.Call):
        return [("L6", node.lineno)]
    if isinstance(node, ast.Try):
        return try_faults(node)
    return []


def try_faults(node):
    if node.finalbody or any(handler.type is None for handler in node.handlers):
        return [("L6", node.lineno)]
    named = [one.id for handler in node.handlers for one in ast.walk(handler.type) if isinstance(one, ast.Name)]
    return [("L19", node.lineno) for name in named if name in ("Exception", "TypeError")]


def value_faults(node):
    if not isinstance(node, EXPRESSIONS):
        return [("L7", node.lineno)]
    if isinstance(node, ast.Constant):
        plain = node.value is None or isinstance(node.value, (bool, int, str))
        if not plain:
            return [("L7", node.lineno)]
        return [("L27", node.lineno)] if isinstance(node.value, str) and "%" in node.value else []
    if isinstance(node, ast.BinOp) and isinstance(node.op, (ast.Div, ast.MatMult)):
        return [("L7", node.lineno)]
    if isinstance(node, ast.BinOp) and isinstance(node.op, ast.Pow):
        return power_faults(node)
    if isinstance(node, ast.ListComp) and (len(node.generators) > 1 or len(node.generators[0].ifs) > 1):
        return [("L7", node.lineno)]
    if isinstance(node, ast.FormattedValue) and not plain_brace(node):
        return [("L7", node.lineno)]
    if isinstance(node, ast.Compare):
        return is_faults(node)
    if isinstance(node, ast.Call):
        return keyword_faults(node)
    return []


def power_faults(node):
    written = isinstance(node.right, ast.Constant) and node.right.value in range(65)
    return [] if written else [("L27", node.lineno)]


def plain_brace(node):
    return isinstance(node.value, ast.Name) and node.conversion in (-1, ord("r")) and node.format_spec is None


def is_faults(node):
    sides = [node.left] + node.comparators
    for place, sign in enumerate(node.ops):
        pair = sides[place:place + 2]
        beside = any(isinstance(one, ast.Constant) and one.value in (None, True, False) for one in pair)
        if isinstance(sign, (ast.Is, ast.IsNot)) and not beside:
            return [("L20", node.lineno)]
    return []


def keyword_faults(node):
    called = node.func.id if isinstance(node.func, ast.Name) else None
    if called is not None and not hasattr(builtins, called):
        return []
    allowed = KEYWORDS.get(called, ())
    return [("L22", node.lineno) for one in node.keywords if one.arg not in allowed]


def bound_names(node):
    if isinstance(node, (ast.FunctionDef, ast.ClassDef)):
        return [node.name]
    if isinstance(node, ast.arg):
        return [node.arg]
    if isinstance(node, ast.alias):
        return [node.asname or node.name]
    if isinstance(node, ast.ExceptHandler) and node.name:
        return [node.name]
    if isinstance(node, ast.Name) and isinstance(node.ctx, ast.Store):
        return [node.id]
    return []


def name_faults(node):
    faults = []
    for name in bound_names(node):
        if not PLAIN_NAME.fullmatch(name) and name not in OWN_METHODS:
            faults.append(("L12", node.lineno))
        if hasattr(builtins, name) and name not in OWN_METHODS:
            faults.append(("L15", node.lineno))
        if name in NEVER_NAMES:
            faults.append(("L17", node.lineno))
    if isinstance(node, ast.Name) and isinstance(node.ctx, ast.Load):
        if node.id in NEVER_NAMES:
            faults.append(("L17", node.lineno))
        elif hasattr(builtins, node.id) and node.id not in NAMES:
            faults.append(("L8", node.lineno))
    return faults


def attribute_faults(tree):
    own = {one.name for one in ast.walk(tree) if isinstance(one, ast.FunctionDef)}
    kept = {
        one.attr for one in ast.walk(tree) if isinstance(one, ast.Attribute) and isinstance(one.ctx, ast.Store)
    }
    faults = []
    for node in ast.walk(tree):
        if isinstance(node, ast.Attribute):
            if node.attr in NEVER_NAMES or node.attr not in METHODS | own | kept:
                faults.append(("L25", node.lineno))
    return faults


def top_faults(tree):
    faults = []
    met = []
    for place, node in enumerate(tree.body):
        docstring = place == 0 and isinstance(node, ast.Expr) and isinstance(node.value, ast.Constant)
        if not docstring and not isinstance(node, (ast.ImportFrom, ast.FunctionDef, ast.ClassDef, ast.Assign)):
            faults.append(("L3", node.lineno))
        for one in [node] + list(getattr(node, "names", [])) + list(getattr(node, "targets", [])):
            for name in bound_names(one):
                if name in met:
                    faults.append(("L15", node.lineno))
                met.append(name)
    return faults


def walked_calls(tree):
    """What is walked on the spot: behind the in of a loop, or in a call that walks it at once (L23)."""
    walked = []
    for node in ast.walk(tree):
        if isinstance(node, (ast.For, ast.comprehension)):
            walked.append(node.iter)
        elif isinstance(node, ast.Call) and node.args:
            called = node.func.id if isinstance(node.func, ast.Name) else None
            joins = isinstance(node.func, ast.Attribute) and node.func.attr == "join"
            if called in WALKERS or joins or (called in ("min", "max") and len(node.args) == 1):
                walked.append(node.args[0])
    return walked


def changes(node, name):
    """Whether a node changes the list or dict of this name."""
    if isinstance(node, ast.Subscript) and isinstance(node.ctx, ast.Store):
        return isinstance(node.value, ast.Name) and node.value.id == name
    if isinstance(node, ast.Attribute) and node.attr in CHANGERS:
        return isinstance(node.value, ast.Name) and node.value.id == name
    return False


def walk_faults(tree):
    walked = walked_calls(tree)
    faults = []
    for node in ast.walk(tree):
        if isinstance(node, ast.Call):
            called = node.func.id if isinstance(node.func, ast.Name) else getattr(node.func, "attr", None)
            if called in WALKED and not any(node is one for one in walked):
                faults.append(("L23", node.lineno))
        if isinstance(node, ast.For):
            for name in [one.id for one in ast.walk(node.iter) if isinstance(one, ast.Name)]:
                within = [one for row in node.body for one in ast.walk(row)]
                faults += [("L23", one.lineno) for one in within if changes(one, name)]
    return faults


def shadow_faults(tree):
    """Parameters and locals that are called like an import, a class or a def of the file's top (L15)."""
    tops = [node for node in tree.body if isinstance(node, (ast.ImportFrom, ast.ClassDef, ast.FunctionDef))]
    taken = {name for node in tops for one in [node] + getattr(node, "names", []) for name in bound_names(one)}
    defs = [node for node in ast.walk(tree) if isinstance(node, (ast.FunctionDef, ast.Lambda))]
    within = [one for node in defs for one in ast.walk(node) if one is not node]
    methods = [one for node in tree.body if isinstance(node, ast.ClassDef) for one in node.body]
    locals_of = [one for one in within if not any(one is method for method in methods)]
    return [("L15", one.lineno) for one in locals_of for name in bound_names(one) if name in taken]


def faults_of(source):
    """The faults of a file that is not __main__.py, as a sorted list of tuples (rule, row)."""
    tree = ast.parse(source)
    opening = tree.body[0] if tree.body and ast.get_docstring(tree) is not None else None
    faults = row_faults(source) + top_faults(tree) + attribute_faults(tree) + walk_faults(tree) + shadow_faults(tree)
    for node in ast.walk(tree):
        faults += name_faults(node)
        if isinstance(node, ast.stmt) and node is not opening:
            faults += statement_faults(node)
        if isinstance(node, ast.expr):
            faults += value_faults(node)
        if isinstance(node, ast.ImportFrom):
            faults += import_faults(node)
        if isinstance(node, (ast.FunctionDef, ast.Lambda)):
            faults += function_faults(node)
        if isinstance(node, ast.ClassDef):
            faults += class_faults(node)
    return sorted(set(faults))


def drawn_from(source):
    """The pairs (module, name) that a file imports from the package."""
    nodes = [node for node in ast.parse(source).body if isinstance(node, ast.ImportFrom)]
    return [(node.module, one.name) for node in nodes for one in node.names if node.module != "__future__"]


def defined_in(source):
    """The names that a file itself defines at its top."""
    names = []
    for node in ast.parse(source).body:
        for one in [node] + list(getattr(node, "targets", [])):
            names += bound_names(one)
    return names


def bad_file_name(name):
    if name == "__init__.py":
        return False
    stem = name[:-3]
    alike = hasattr(builtins, stem) or NEVER_WORDS.fullmatch(stem)
    return bool(not FILE_NAME.fullmatch(name) or stem in NEVER_FILES or stem.startswith("test_") or alike)

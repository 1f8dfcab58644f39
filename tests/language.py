"""A check of the package against LANGUAGE.md.

It is narrower than the rules where that makes a rule easy to check: what the package doesn't use so far (sets,
lambdas, with, match, stars, generators, decorators, annotations, keywords ..) is not let in at all, and a try only
with handlers that name one own refusal each.
`faults(files)` takes a dict of file names and texts and tells a list of tuples (rule, file, line).
"""

import ast
import builtins
import io
import re
import tokenize

PACKAGE = "chalkcave"

NODES = (
    ast.Module, ast.ImportFrom, ast.alias, ast.FunctionDef, ast.arguments, ast.arg, ast.ClassDef,
    ast.Assign, ast.AugAssign, ast.If, ast.While, ast.For, ast.Return, ast.Break, ast.Continue, ast.Pass,
    ast.Raise, ast.Try, ast.ExceptHandler, ast.Expr, ast.Name, ast.Constant, ast.Attribute, ast.Subscript,
    ast.Slice, ast.Call,
    ast.List, ast.Tuple, ast.Dict, ast.ListComp, ast.DictComp, ast.comprehension, ast.IfExp,
    ast.BoolOp, ast.And, ast.Or, ast.UnaryOp, ast.Not, ast.USub, ast.Compare, ast.Eq, ast.NotEq, ast.Lt, ast.LtE,
    ast.Gt, ast.GtE, ast.Is, ast.IsNot, ast.In, ast.NotIn, ast.BinOp, ast.Add, ast.Sub, ast.Mult, ast.FloorDiv,
    ast.Mod, ast.JoinedStr, ast.FormattedValue, ast.Load, ast.Store,
)
CALLED = (
    "len", "range", "enumerate", "zip", "min", "max", "sum", "abs", "sorted", "reversed", "int", "str", "bool",
    "list", "tuple", "dict", "ord", "any", "all", "divmod", "isinstance",
)
METHODS = (
    "append clear copy count endswith extend find get index insert isalnum isalpha isdigit islower isspace isupper "
    "items join keys ljust lower lstrip partition pop remove replace reverse rfind rjust rpartition rsplit rstrip "
    "setdefault split splitlines startswith strip update upper values zfill bit_length"
).split()
AT_ONCE = ("zip", "enumerate", "reversed", "range", "items", "keys", "values")
TAKERS = ("list", "tuple", "dict", "sorted", "sum", "any", "all", "enumerate", "zip", "min", "max")
BARRED_NAMES = (
    "register mro elements open input version_info with_traceback add_note attrgetter breakpoint builtins compile "
    "copyright credits delattr dir eval exec exit gc getattr globals hasattr help id importlib license locals "
    "methodcaller os quit setattr super type vars sys chr format format_map"
).split()
BARRED_WORDS = re.compile(
    r"\b(type|typing|typing_extensions|enum|Enum|IntEnum|StrEnum|Flag|IntFlag|Generic|Protocol|ABC|ABCMeta|namedtuple"
    r"|NamedTuple|TypedDict|TYPE_CHECKING|abstractmethod)\b|dataclass|overload|contextmanager"
)
BUILTIN_ATTRIBUTES = {name for kind in (str, int, list, dict, set, bytes, tuple) for name in dir(kind)}


def called_name(node):
    """The name of what a call calls, or None."""
    if not isinstance(node, ast.Call):
        return None
    if isinstance(node.func, ast.Name):
        return node.func.id
    return node.func.attr if isinstance(node.func, ast.Attribute) else None


def bound_names(node):
    """The names that a part of a file binds, with their lines."""
    for part in ast.walk(node):
        if isinstance(part, ast.Name) and isinstance(part.ctx, ast.Store):
            yield part.id, part.lineno
        elif isinstance(part, ast.arg):
            yield part.arg, part.lineno
        elif isinstance(part, (ast.FunctionDef, ast.ClassDef)):
            yield part.name, part.lineno
        elif isinstance(part, ast.Attribute) and isinstance(part.ctx, ast.Store):
            yield part.attr, part.lineno


class Package:
    """What all files together define."""

    def __init__(self, trees):
        nodes = [node for tree in trees.values() for node in ast.walk(tree)]
        self.classes = {node.name: node for node in nodes if isinstance(node, ast.ClassDef)}
        self.methods = {
            part.name for node in self.classes.values() for part in node.body if isinstance(part, ast.FunctionDef)
        }
        self.stored = {
            node.attr for node in nodes if isinstance(node, ast.Attribute) and isinstance(node.ctx, ast.Store)
        }
        self.tops = {name: self.top_names(tree) for name, tree in trees.items()}
        self.errors = self.error_names()

    def top_names(self, tree):
        names = []
        for node in tree.body:
            if isinstance(node, (ast.FunctionDef, ast.ClassDef)):
                names.append(node.name)
            elif isinstance(node, ast.Assign):
                names += [part.id for part in node.targets if isinstance(part, ast.Name)]
        return names

    def error_names(self):
        found = {"ValueError", "Exception"}
        for turn in range(len(self.classes)):
            for node in self.classes.values():
                if any(isinstance(base, ast.Name) and base.id in found for base in node.bases):
                    found.add(node.name)
        return found


def faults(files):
    """All faults of a package that is told as a dict of file names and texts."""
    told = file_faults(files)
    trees = {}
    for name, text in files.items():
        told += text_faults(name, text)
        trees[name] = ast.parse(text)
    package = Package(trees)
    told += [("L18", name, 0) for name in sorted(package.methods & package.stored)]
    told += [("L16", name, 0) for name in import_rings(trees)]
    for name, tree in trees.items():
        found = module_faults(tree, package) + definition_faults(tree, package) + node_faults(tree, package)
        found += name_faults(tree, package) + loop_faults(tree)
        told += [(rule, name, line) for rule, line in found]
    return told


def file_faults(files):
    told = []
    for name in files:
        stem = name[:-3]
        if not re.fullmatch(r"[a-z][a-z0-9_]*\.py|__init__\.py", name):
            told.append(("L1", name, 0))
        if stem in dir(builtins) or re.fullmatch(r"law_.*|tests?|testing|test_.*|site|conftest|.*customize", stem):
            told.append(("L14", name, 0))
    if "__init__.py" not in files or len(files) > 100:
        told.append(("L14", "__init__.py", 0))
    return told


def text_faults(name, text):
    told = []
    rows = text.split("\n")
    if len(rows) - 1 > 400:
        told.append(("L10", name, 400))
    for at, row in enumerate(rows, start=1):
        if len(row) > 120 or "\t" in row:
            told.append(("L10", name, at))
        if re.search(r"[^ -~]", row):
            told.append(("L14", name, at))
        if BARRED_WORDS.search(row):
            told.append(("L17", name, at))
    # From Python 3.12 on the text of an f-string comes in tokens of its own.
    kinds = (tokenize.STRING, getattr(tokenize, "FSTRING_MIDDLE", tokenize.STRING))
    for token in tokenize.generate_tokens(io.StringIO(text).readline):
        if token.type in kinds and ("%" in token.string or re.search(r"\\[^nt\\'\"]", token.string)):
            told.append(("L27", name, token.start[0]))
    return told


def import_rings(trees):
    """The files that import themselves through others."""
    ahead = {}
    for name, tree in trees.items():
        modules = [node.module or "" for node in ast.walk(tree) if isinstance(node, ast.ImportFrom)]
        ahead[name] = {module.partition(".")[2] + ".py" for module in modules}
    for turn in range(len(trees)):
        for name in ahead:
            ahead[name] = ahead[name].union(*(ahead.get(other, set()) for other in ahead[name]))
    return [name for name in ahead if name in ahead[name]]


def plain_value(node, functions=()):
    """True for a plain value, and for one that is made of plain values and these functions."""
    if isinstance(node, (ast.List, ast.Tuple)):
        return all(plain_value(part, functions) for part in node.elts)
    if isinstance(node, ast.UnaryOp):
        return isinstance(node.op, ast.USub) and isinstance(node.operand, ast.Constant)
    if isinstance(node, ast.Dict):
        return all(plain_value(part, functions) for part in node.keys + node.values if part is not None)
    return isinstance(node, ast.Constant) or (isinstance(node, ast.Name) and node.id in functions)


def table_faults(tree):
    """The faults of lists and dicts at module level: one inside another, and a use that may change or pass one on."""
    told = []
    tables = []
    for node in tree.body:
        if isinstance(node, ast.Assign) and isinstance(node.value, (ast.List, ast.Dict)):
            tables += [part.id for part in node.targets if isinstance(part, ast.Name)]
            inside = [part for part in ast.walk(node.value) if part is not node.value]
            told += [("L15", node.lineno) for part in inside if isinstance(part, (ast.List, ast.Dict))]
    read = [part for node in ast.walk(tree) for part in table_reads(node)]
    for node in ast.walk(tree):
        if isinstance(node, ast.Name) and isinstance(node.ctx, ast.Load) and node.id in tables and node not in read:
            told.append(("L15", node.lineno))
    return told


def table_reads(node):
    """The parts of a node in which a list or dict is only read."""
    if isinstance(node, ast.Subscript) and isinstance(node.ctx, ast.Load):
        return [node.value]
    if isinstance(node, ast.Attribute) and node.attr in ("get", "items", "keys", "values", "index", "count"):
        return [node.value]
    if isinstance(node, ast.Compare):
        return node.comparators
    if isinstance(node, (ast.For, ast.comprehension)):
        return [node.iter]
    return node.args if called_name(node) in TAKERS + ("len",) else []


def is_text(node):
    return isinstance(node, ast.Expr) and isinstance(node.value, ast.Constant) and isinstance(node.value.value, str)


def module_faults(tree, package):
    told = table_faults(tree)
    bound = []
    functions = []
    last_import = max([0] + [at for at, node in enumerate(tree.body) if isinstance(node, ast.ImportFrom)])
    for at, node in enumerate(tree.body):
        if isinstance(node, ast.ImportFrom):
            told += import_faults(node, package)
            bound += [part.name for part in node.names]
        elif isinstance(node, ast.Assign):
            single = len(node.targets) == 1 and isinstance(node.targets[0], ast.Name)
            # A function stands in a table only, never under a second name.
            if not single or isinstance(node.value, ast.Name) or not plain_value(node.value, functions):
                told.append(("L3", node.lineno))
            else:
                bound.append(node.targets[0].id)
        elif isinstance(node, (ast.FunctionDef, ast.ClassDef)):
            bound.append(node.name)
            if isinstance(node, ast.FunctionDef):
                functions.append(node.name)
        elif not (at == 0 and is_text(node)):
            told.append(("L2" if isinstance(node, ast.Import) else "L3", node.lineno))
        if at < last_import and not isinstance(node, ast.ImportFrom) and at > 0:
            told.append(("L2", node.lineno))
    return told + [("L15", 0) for name in bound if bound.count(name) > 1]


def import_faults(node, package):
    start, dot, module = (node.module or "").partition(".")
    if start != PACKAGE or not dot or node.level:
        return [("L2", node.lineno)]
    told = []
    for part in node.names:
        if part.asname is not None or part.name == "*":
            told.append(("L2", node.lineno))
        elif part.name not in package.tops.get(module + ".py", []):
            told.append(("L16", node.lineno))
    return told


def definition_faults(tree, package):
    told = []
    classes = [node for node in tree.body if isinstance(node, ast.ClassDef)]
    methods = [part for node in classes for part in node.body]
    for node in ast.walk(tree):
        if isinstance(node, ast.ClassDef):
            told += class_faults(node, package)
            if node not in classes:
                told.append(("L15", node.lineno))
        elif isinstance(node, ast.FunctionDef):
            told += function_faults(node)
            if node not in tree.body and node not in methods:
                told.append(("L4", node.lineno))
            if node.name.startswith("__") and (node.name != "__init__" or node not in methods):
                told.append(("L28", node.lineno))
    return told


def class_faults(node, package):
    told = []
    known = list(package.classes) + ["ValueError"]
    if node.decorator_list or node.keywords or len(node.bases) > 1:
        told.append(("L5", node.lineno))
    if not all(isinstance(base, ast.Name) and base.id in known for base in node.bases):
        told.append(("L5", node.lineno))
    names = [part.name for part in node.body if isinstance(part, ast.FunctionDef)]
    if len(names) > len(set(names)):
        told.append(("L18", node.lineno))
    for at, part in enumerate(node.body):
        if not isinstance(part, ast.FunctionDef) and not (at == 0 and is_text(part)):
            told.append(("L5", part.lineno))
    return told


def function_faults(node):
    told = []
    takes = node.args
    if node.decorator_list or takes.posonlyargs or takes.kwonlyargs or takes.vararg or takes.kwarg:
        told.append(("L4", node.lineno))
    if not all(plain_value(part) and not isinstance(part, (ast.List, ast.Dict)) for part in takes.defaults):
        told.append(("L4", node.lineno))
    if node.returns is not None or any(part.annotation is not None for part in takes.args):
        told.append(("L21", node.lineno))
    if node.end_lineno - node.lineno + 1 > 40:
        told.append(("L10", node.lineno))
    returns = [part for part in ast.walk(node) if isinstance(part, ast.Return)]
    if node.name == "__init__" and returns:
        told.append(("L28", node.lineno))
    return told


def node_faults(tree, package):
    told = []
    for node in ast.walk(tree):
        line = getattr(node, "lineno", 0)
        if not isinstance(node, NODES):
            told.append(("L6 or L7", line))
        elif isinstance(node, ast.Constant) and not isinstance(node.value, (int, str, type(None))):
            told.append(("L7", line))
        elif isinstance(node, ast.Raise):
            if node.cause is not None or called_name(node.exc) not in package.errors:
                told.append(("L19", line))
        elif isinstance(node, ast.Try):
            told += [(rule, line) for rule in try_faults(node, package)]
        elif isinstance(node, ast.FormattedValue):
            told += [(rule, line) for rule in brace_faults(node)]
        elif isinstance(node, ast.Compare):
            told += [("L20", line) for rule in is_faults(node)]
        elif isinstance(node, ast.Call):
            told += [(rule, line) for rule in call_faults(node, package)]
        elif isinstance(node, ast.Attribute):
            if isinstance(node.ctx, ast.Load) and node.attr not in package.stored | package.methods | set(METHODS):
                told.append(("L18", line))
    return told


def try_faults(node, package):
    """The faults of a try: each handler names one own refusal, and there is nothing else but handlers."""
    if node.finalbody or node.orelse:
        yield "L6"
    for handler in node.handlers:
        own = isinstance(handler.type, ast.Name) and handler.type.id in package.errors & set(package.classes)
        if not own or handler.name is not None:
            yield "L19"


def brace_faults(node):
    """The faults of one pair of braces in an f-string; no string is let in there."""
    if node.format_spec is not None:
        yield "L7"
    for part in ast.walk(node.value):
        if isinstance(part, ast.JoinedStr) or (isinstance(part, ast.Constant) and isinstance(part.value, str)):
            yield "L27"


def is_faults(node):
    sides = [node.left] + node.comparators
    for at, sign in enumerate(node.ops):
        if isinstance(sign, (ast.Is, ast.IsNot)):
            if not any(isinstance(side, ast.Constant) and side.value in (None, True, False) for side in sides[at:at + 2]):
                yield "L20"


def call_faults(node, package):
    if node.keywords:
        yield "L22"
    if isinstance(node.func, ast.Name):
        if node.func.id in dir(builtins) and node.func.id not in CALLED and node.func.id not in package.errors:
            yield "L8"
    elif isinstance(node.func, ast.Attribute):
        if node.func.attr not in package.methods and node.func.attr not in METHODS:
            yield "L25"
    else:
        yield "L7"


def name_faults(tree, package):
    told = []
    imported = [part.name for node in tree.body if isinstance(node, ast.ImportFrom) for part in node.names]
    classes = [node.name for node in tree.body if isinstance(node, ast.ClassDef)]
    called = [node.func for node in ast.walk(tree) if isinstance(node, ast.Call)]
    for name, line in bound_names(tree):
        if name in BARRED_NAMES or (name.startswith("_") and name != "__init__"):
            told.append(("L12 or L17", line))
    for node in ast.walk(tree):
        if isinstance(node, ast.FunctionDef):
            for part in ast.walk(node):
                name = getattr(part, "arg", None) if isinstance(part, ast.arg) else None
                if isinstance(part, ast.Name) and isinstance(part.ctx, ast.Store):
                    name = part.id
                if name is not None and (name in dir(builtins) or name in imported + classes):
                    told.append(("L15", part.lineno))
        elif isinstance(node, ast.Attribute) and isinstance(node.ctx, ast.Store):
            if node.attr in BUILTIN_ATTRIBUTES or node.attr == "args":
                told.append(("L26", node.lineno))
        elif isinstance(node, ast.Name) and isinstance(node.ctx, ast.Load) and node not in called:
            if node.id in CALLED or node.id in BARRED_NAMES:
                told.append(("L22", node.lineno))
    told += [("L26", 0) for name in sorted(package.methods & BUILTIN_ATTRIBUTES) if name not in METHODS + ["__init__"]]
    return told


def loop_faults(tree):
    told = []
    at_once = []
    for node in ast.walk(tree):
        if isinstance(node, (ast.For, ast.comprehension)):
            at_once.append(node.iter)
        elif called_name(node) in TAKERS and isinstance(node.func, ast.Name):
            at_once += node.args
    for node in ast.walk(tree):
        if called_name(node) in AT_ONCE and node not in at_once:
            told.append(("L23", node.lineno))
        elif isinstance(node, ast.For):
            told += [("L23", line) for line in lines_that_change(node.body, ast.unparse(node.iter))]
    return told


def lines_that_change(body, iterated):
    """The lines of a loop's body that change what it iterates over."""
    for part in [part for row in body for part in ast.walk(row)]:
        if isinstance(part, (ast.Subscript, ast.Attribute)) and isinstance(part.ctx, ast.Store):
            if ast.unparse(part.value) == iterated:
                yield part.lineno
        elif called_name(part) in METHODS and isinstance(part.func, ast.Attribute):
            if ast.unparse(part.func.value) == iterated:
                yield part.lineno

"""A check of the package's files against LANGUAGE.md, as far as a script can see it.

It is stricter than the paper: what the package has not needed so far
(generators, match, with, try ..) is not allowed here. Who needs it widens
NODES below and checks what the paper says of it.
"""

import ast
import builtins
import io
import re
import tokenize
import warnings

from tests.language_calls import call_faults
from tests.language_classes import class_faults

LONGEST_FUNCTION = 40
LONGEST_FILE = 399
LONGEST_LINE = 120

NODES = (
    ast.Module, ast.ImportFrom, ast.alias, ast.FunctionDef, ast.arguments, ast.arg, ast.ClassDef, ast.Return, ast.Assign,
    ast.AugAssign, ast.If, ast.While, ast.For, ast.Break, ast.Continue, ast.Pass, ast.Raise, ast.Expr, ast.Call,
    ast.keyword, ast.Name, ast.Attribute, ast.Subscript, ast.Slice, ast.Tuple, ast.List, ast.Dict, ast.ListComp,
    ast.DictComp, ast.comprehension, ast.Constant, ast.BoolOp, ast.BinOp, ast.UnaryOp, ast.Compare, ast.IfExp,
    ast.expr_context, ast.boolop, ast.operator, ast.unaryop, ast.cmpop, ast.Starred, ast.JoinedStr, ast.FormattedValue,
)
LIBRARY = {
    "heapq": {"heappush", "heappop", "heapify", "heapreplace", "heappushpop"},
    "math": {"gcd", "lcm", "isqrt", "comb", "perm", "factorial"},
    "itertools": {"product", "combinations", "permutations", "chain", "accumulate", "pairwise", "islice", "zip_longest"},
    "collections": {"defaultdict", "deque"},
    "__future__": {"annotations"},
}
BUILTINS = set(
    "len range enumerate zip min max sum abs sorted reversed int str bool bytes list tuple dict set frozenset isinstance "
    "ord repr any all divmod pow getattr hasattr setattr iter next map Exception ValueError TypeError KeyError IndexError "
    "LookupError ZeroDivisionError ArithmeticError OverflowError RuntimeError NotImplementedError AttributeError "
    "StopIteration NotImplemented super property staticmethod classmethod".split()
)
METHODS = set(
    "append clear copy count endswith extend find get index insert isalnum isalpha isdigit islower isspace isupper items "
    "join keys ljust lower lstrip partition pop remove replace reverse rfind rjust rpartition rsplit rstrip setdefault "
    "split splitlines startswith strip update upper values zfill bit_length add discard sort popleft appendleft isascii".split()
)
CHANGING = set("append clear extend insert pop remove reverse setdefault update add discard sort".split())
# Builtins whose names a parameter or a local variable may have (L15).
FREE_BUILTINS = set(
    "object id format credits license copyright quit callable complex ascii oct memoryview aiter anext".split()
)
BARRED_ANYWHERE = set("mro elements open input law version_info with_traceback add_note register".split())
BARRED_NAMES = set(
    "attrgetter breakpoint builtins compile copyright credits delattr dir eval exec exit gc getattr globals hasattr help "
    "id importlib license locals methodcaller os quit setattr super type vars sys __name__".split()
)
BARRED_WORDS = set(
    "type typing typing_extensions enum Enum IntEnum StrEnum Flag IntFlag Generic Protocol ABC ABCMeta namedtuple "
    "NamedTuple TypedDict TYPE_CHECKING abstractmethod".split()
)
BARRED_PARTS = ("dataclass", "overload", "contextmanager")
BARRED_FILES = set("test tests testing site conftest sitecustomize usercustomize heapq math itertools".split())


def file_faults(path, text, modules):
    """All faults of a file; modules are the names of the files of the package, without .py."""
    found = text_faults(text)
    with warnings.catch_warnings():
        warnings.simplefilter("error")
        try:
            tree = ast.parse(text)
            compile(text, path, "exec")
        except (SyntaxError, Warning) as wrong:
            return found + [f"L27: {wrong}"]
    found += token_faults(text)
    found += node_faults(tree, own_methods(text, modules))
    found += module_faults(tree, modules)
    found += call_faults(tree, modules)
    found += class_faults(tree)
    found += name_faults(tree)
    return found


def text_faults(text):
    found = []
    lines = text.split("\n")
    if len(lines) - 1 > LONGEST_FILE:
        found.append(f"L10: a file of {len(lines) - 1} lines")
    if not text.endswith("\n"):
        found.append("L10: the last line has no end")
    for at, line in enumerate(lines, 1):
        if len(line) > LONGEST_LINE:
            found.append(f"L10: line {at} has {len(line)} characters")
        if any(not " " <= sign <= "~" for sign in line):
            found.append(f"L14: line {at} has a character beyond space to ~")
    for word in ("_wall", "_WallAttr", "(type)", "Meta", "metaclass="):
        if word in text:
            found.append(f"L12, L17: {word}")
    return found


def token_faults(text):
    found = []
    for token in tokenize.generate_tokens(io.StringIO(text).readline):
        at = token.start[0]
        if token.type == tokenize.NAME:
            if token.string in BARRED_WORDS or any(part in token.string for part in BARRED_PARTS):
                found.append(f"L17: line {at}: {token.string}")
            if not re.fullmatch(r"_?[A-Za-z][A-Za-z0-9_]*|_|__[a-z]+__", token.string):
                found.append(f"L12: line {at}: {token.string}")
        if token.type == tokenize.STRING and "\\" in token.string:
            found.append(f"L27: line {at}: an escape")
    return found


def own_methods(text, modules):
    """The names of all methods of the package's classes, and of those of a text."""
    classes = [node for row in [text, *modules.values()] for node in ast.parse(row).body if isinstance(node, ast.ClassDef)]
    return {row.name for node in classes for row in node.body if isinstance(row, ast.FunctionDef)}


def node_faults(tree, methods):
    found = []
    docs = docstrings(tree)
    for node in ast.walk(tree):
        at = getattr(node, "lineno", 0)
        if isinstance(node, ast.Import):
            found.append(f"L2: line {at}: an import of a module")
        elif not isinstance(node, NODES) or isinstance(node, (ast.Div, ast.MatMult)):
            found.append(f"L6, L7: line {at}: {node.__class__.__name__}")
        if isinstance(node, ast.FunctionDef) and node.end_lineno - at + 1 > LONGEST_FUNCTION:
            found.append(f"L10: line {at}: a function of {node.end_lineno - at + 1} lines")
        if isinstance(node, ast.Constant) and id(node) not in docs:
            found += [f"L7, L27: line {at}: {fault}" for fault in constant_faults(node.value)]
        found += [f"{fault}, line {at}" for fault in statement_faults(node)]
        if isinstance(node, ast.Call) and isinstance(node.func, ast.Attribute) and node.func.attr not in METHODS | methods:
            found.append(f"L25: line {at}: the method {node.func.attr}")
    return found


def docstrings(tree):
    found = set()
    for node in ast.walk(tree):
        if isinstance(node, (ast.Module, ast.FunctionDef, ast.ClassDef)) and ast.get_docstring(node) is not None:
            found.add(id(node.body[0].value))
    return found


def constant_faults(value):
    if isinstance(value, str):
        # On one line the other words of L17 may stand in a string.
        if any(part in value for part in BARRED_PARTS + ("typing_extensions", "TYPE_CHECKING", "%", "\n", "__")):
            return [f"the string {value!r}"]
    elif value is not None and not isinstance(value, (bool, int)):
        return [f"the value {value!r}"]
    return []


def statement_faults(node):
    found = []
    if isinstance(node, ast.Compare):
        for operator, right in zip(node.ops, node.comparators):
            if isinstance(operator, (ast.Is, ast.IsNot)) and not plainly_single(right):
                found.append("L20: is")
    if isinstance(node, ast.BinOp) and isinstance(node.op, ast.Pow):
        if not isinstance(node.right, ast.Constant) or not 0 <= node.right.value <= 64:
            found.append("L27: an exponent")
    if isinstance(node, ast.Raise):
        if not isinstance(node.exc, ast.Call) or not isinstance(node.exc.func, ast.Name) or node.cause is not None:
            found.append("L19: raise")
    if isinstance(node, ast.FormattedValue):
        inner = [part for part in ast.walk(node.value)
                 if isinstance(part, ast.JoinedStr) or isinstance(part, ast.Constant) and isinstance(part.value, str)]
        if node.conversion != -1 or node.format_spec is not None or inner:
            found.append("L7, L27: what stands in the braces of an f-string")
    if isinstance(node, ast.For):
        found += loop_faults(node)
    return found


def plainly_single(node):
    return isinstance(node, ast.Constant) and (node.value is None or isinstance(node.value, bool))


def loop_faults(loop):
    """L23: what a loop goes over is not modified in it."""
    over = {node.id for node in ast.walk(loop.iter) if isinstance(node, ast.Name)}
    found = []
    for row in loop.body:
        for node in ast.walk(row):
            if isinstance(node, ast.Call) and isinstance(node.func, ast.Attribute) and node.func.attr in CHANGING:
                if isinstance(node.func.value, ast.Name) and node.func.value.id in over:
                    found.append(f"L23: {node.func.value.id} is modified in its loop")
            if isinstance(node, ast.Subscript) and isinstance(node.ctx, ast.Store):
                if isinstance(node.value, ast.Name) and node.value.id in over:
                    found.append(f"L23: an item of {node.value.id} is modified in its loop")
    return found


def module_faults(tree, modules):
    """L2, L3, L15, L16: what stands at module level."""
    found = []
    bound = []
    at_top = True
    for k, node in enumerate(tree.body):
        at = node.lineno
        if isinstance(node, ast.ImportFrom):
            if not at_top:
                found.append(f"L2: line {at}: an import below the top")
            found += import_faults(node, modules)
            bound += [alias.asname or alias.name for alias in node.names]
        elif k == 0 and isinstance(node, ast.Expr) and isinstance(node.value, ast.Constant):
            pass
        elif isinstance(node, (ast.FunctionDef, ast.ClassDef)):
            at_top = False
            bound.append(node.name)
        elif isinstance(node, ast.Assign) and len(node.targets) == 1 and isinstance(node.targets[0], ast.Name):
            at_top = False
            bound.append(node.targets[0].id)
            found += [f"L3: line {at}: {fault}" for fault in plain_faults(node.value, 0)]
        else:
            found.append(f"L3: line {at}: a statement at module level")
    found += [f"L15: {name} is bound twice" for name in set(bound) if bound.count(name) > 1]
    found += [f"L15: {name} is a builtin" for name in bound if hasattr(builtins, name)]
    return found


def import_faults(node, modules):
    names = [alias.name for alias in node.names]
    if node.level != 0 or "*" in names or any(alias.asname for alias in node.names):
        return [f"L2: line {node.lineno}: an import of another form"]
    if node.module in LIBRARY:
        return [f"L2: line {node.lineno}: {name}" for name in names if name not in LIBRARY[node.module]]
    parts = node.module.split(".")
    if len(parts) != 2 or parts[0] != "bothreaders" or parts[1] not in modules:
        return [f"L2: line {node.lineno}: an import from {node.module}"]
    return [f"L16: line {node.lineno}: {node.module} does not define {name}"
            for name in names if name not in defined(modules[parts[1]])]


def defined(text):
    """The names that a file defines itself."""
    found = set()
    for node in ast.parse(text).body:
        if isinstance(node, (ast.FunctionDef, ast.ClassDef)):
            found.add(node.name)
        elif isinstance(node, ast.Assign):
            found |= {target.id for target in node.targets if isinstance(target, ast.Name)}
    return found


def plain_faults(node, depth):
    """L3, L15: plain values, and no list or dict inside of another value."""
    if isinstance(node, ast.Constant):
        return []
    if isinstance(node, ast.UnaryOp) and isinstance(node.op, ast.USub) and isinstance(node.operand, ast.Constant):
        return []
    if isinstance(node, (ast.List, ast.Dict)) and depth > 0:
        return ["a list or a dict inside of another value"]
    if isinstance(node, (ast.List, ast.Tuple)):
        return [fault for item in node.elts for fault in plain_faults(item, depth + 1)]
    if isinstance(node, ast.Dict):
        return [fault for item in node.keys + node.values for fault in plain_faults(item, depth + 1)]
    return ["no plain value"]


def name_faults(tree):
    """L8, L12, L15, L17: the names that are bound and read."""
    imported = {alias.name for node in ast.walk(tree) if isinstance(node, ast.ImportFrom) for alias in node.names}
    classes = {node.name for node in ast.walk(tree) if isinstance(node, ast.ClassDef)}
    functions = {node.name for node in ast.walk(tree) if isinstance(node, ast.FunctionDef)}
    locals_bound = {}
    for node in ast.walk(tree):
        if isinstance(node, ast.arg):
            locals_bound.setdefault(node.arg, node.lineno)
        if isinstance(node, ast.Name) and isinstance(node.ctx, ast.Store):
            locals_bound.setdefault(node.id, node.lineno)
    # In an interactive run (also doctest's) the builtins have a _, too.
    locals_bound.pop("_", None)
    found = []
    for name, at in locals_bound.items():
        if name in imported | classes or hasattr(builtins, name) and name not in FREE_BUILTINS:
            found.append(f"L15: line {at}: the variable {name}")
    for name in set(locals_bound) | functions | classes | imported:
        if name in BARRED_ANYWHERE or name in BARRED_NAMES - FREE_BUILTINS:
            found.append(f"L17: {name}")
    known = {"_"} | set(locals_bound) | imported | classes | functions
    for node in ast.walk(tree):
        if isinstance(node, ast.Name) and isinstance(node.ctx, ast.Load) and node.id not in known | BUILTINS:
            found.append(f"L8: line {node.lineno}: {node.id}")
        if isinstance(node, ast.Name) and isinstance(node.ctx, ast.Load) and node.id == "_":
            found.append(f"L12: line {node.lineno}: _ is read")
        if isinstance(node, ast.Attribute) and node.attr in BARRED_ANYWHERE | {"format", "format_map", "args"}:
            found.append(f"L17, L26: line {node.lineno}: {node.attr}")
    return found


def circles(modules):
    """L16: the files that import from each other, directly or through other files."""
    reached = {}
    for name, text in modules.items():
        reached[name] = {node.module.split(".")[-1] for node in ast.parse(text).body
                         if isinstance(node, ast.ImportFrom) and node.module.startswith("bothreaders")}
    for _ in modules:
        for name in modules:
            for other in sorted(reached[name]):
                reached[name] |= reached.get(other, set())
    return [name for name in modules if name in reached[name]]

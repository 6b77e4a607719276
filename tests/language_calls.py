"""The part of the check of LANGUAGE.md that looks at calls, stars, sets and what is iterated at once."""

import ast

AT_ONCE = ("zip", "enumerate", "reversed", "range")
VIEWS = ("items", "keys", "values")
ITERATING = ("list", "tuple", "dict", "sorted", "sum", "any", "all", "enumerate", "zip", "min", "max")
LISTS_ALONE = ("any", "all", "min", "max", "sum", "sorted")


def call_faults(tree, modules):
    """All faults of the calls of a file; modules are the texts of the package's files by their names."""
    parents = {child: node for node in ast.walk(tree) for child in ast.iter_child_nodes(node)}
    found = star_faults(tree) + set_faults(tree, parents)
    own = own_functions(tree, modules)
    for node in ast.walk(tree):
        if isinstance(node, ast.Call):
            found += [f"{fault}, line {node.lineno}" for fault in at_once_faults(node, parents) + keyword_faults(node)]
            found += [f"{fault}, line {node.lineno}" for fault in number_faults(node, own)]
    return found


def name_of(call):
    return call.func.id if isinstance(call.func, ast.Name) else None


def is_call_of(node, names):
    return isinstance(node, ast.Call) and name_of(node) in names


def star_faults(tree):
    """L7: a star stands in a call of zip, alone, and before a name."""
    good = [node.args[0] for node in ast.walk(tree) if is_call_of(node, ("zip",)) and len(node.args) == 1
            and isinstance(node.args[0], ast.Starred) and isinstance(node.args[0].value, ast.Name)]
    return [f"L7: line {node.lineno}: a star" for node in ast.walk(tree) if isinstance(node, ast.Starred) and node not in good]


def at_once_faults(call, parents):
    """L23: zip, range and the like are iterated at once; a range may be kept by a name."""
    is_view = isinstance(call.func, ast.Attribute) and call.func.attr in VIEWS
    if name_of(call) not in AT_ONCE and not is_view:
        return []
    above = parents[call]
    if isinstance(above, (ast.For, ast.comprehension)) and above.iter is call:
        return []
    if is_call_of(above, ITERATING) and above.args[0] is call:
        return []
    if name_of(call) == "range" and isinstance(above, ast.Assign) and isinstance(above.targets[0], ast.Name):
        return []
    return [f"L23: {ast.unparse(call)} is not iterated at once"]


def keyword_faults(call):
    """L22: keywords in calls of builtins; none is needed so far."""
    return ["L22: a keyword"] if call.keywords else []


def set_faults(tree, parents):
    """L24: a set is kept once by a plain name, or stands behind in, or in sorted or len."""
    found = []
    for node in ast.walk(tree):
        if isinstance(node, (ast.Set, ast.SetComp)):
            found.append(f"L24: line {node.lineno}: a set of another form")
        if is_call_of(node, ("set", "frozenset")):
            above = parents[node]
            if is_call_of(above, ("len", "sorted")) and above.args == [node]:
                continue
            if isinstance(above, ast.Assign) and len(above.targets) == 1 and isinstance(above.targets[0], ast.Name):
                found += kept_set_faults(function_around(above, parents), above.targets[0], parents)
            else:
                found.append(f"L24: line {node.lineno}: a set that is not kept by a plain name")
    return found


def function_around(node, parents):
    while not isinstance(node, ast.FunctionDef):
        node = parents[node]
    return node


def kept_set_faults(function, target, parents):
    found = []
    for node in ast.walk(function):
        if isinstance(node, ast.arg) and node.arg == target.id:
            found.append(f"L24: line {node.lineno}: {target.id} is a parameter, too")
        if isinstance(node, ast.Name) and node.id == target.id and node is not target:
            above = parents[node]
            if not is_use_of_set(node, above, parents):
                found.append(f"L24: line {node.lineno}: {target.id} is used in another way")
    return found


def is_use_of_set(node, above, parents):
    if isinstance(above, ast.Attribute):
        call = parents[above]
        return above.attr in ("add", "discard") and isinstance(parents[call], ast.Expr)
    if isinstance(above, ast.Compare):
        return isinstance(above.ops[0], (ast.In, ast.NotIn)) and above.comparators[0] is node and len(above.ops) == 1
    return is_call_of(above, ("len", "sorted")) and above.args == [node]


def own_functions(tree, modules):
    """The least and the greatest number of arguments of the functions and classes that a file defines or imports."""
    found = numbers_of(tree)
    for node in tree.body:
        if isinstance(node, ast.ImportFrom) and node.module.startswith("bothreaders."):
            theirs = numbers_of(ast.parse(modules.get(node.module.split(".")[1], "")))
            found.update({alias.name: theirs[alias.name] for alias in node.names if alias.name in theirs})
    return found


def numbers_of(tree):
    found = {}
    for node in tree.body:
        if isinstance(node, ast.FunctionDef):
            found[node.name] = numbers_of_function(node, 0)
        if isinstance(node, ast.ClassDef):
            begun = [row for row in node.body if isinstance(row, ast.FunctionDef) and row.name == "__init__"]
            found[node.name] = numbers_of_function(begun[0], 1) if begun else (0, 0)
    return found


def numbers_of_function(node, own):
    many = len(node.args.args) - own
    return (many - len(node.args.defaults), many)


def number_faults(call, own):
    """L22: a call passes what its function takes; L5, L7: a builtin that looks at all items takes a list."""
    # What a method is called with, is not looked at here; cls(..) neither.
    name = name_of(call)
    if name in own and not own[name][0] <= len(call.args) <= own[name][1]:
        return [f"L22: {name} is called with {len(call.args)} arguments"]
    if name in LISTS_ALONE and any(isinstance(argument, ast.GeneratorExp) for argument in call.args):
        return [f"L7: {name} of a generator expression"]
    return []

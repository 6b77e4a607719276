"""The part of the check of LANGUAGE.md that looks at classes, super, properties and what an operator runs."""

import ast

DOUBLES = {
    "__init__": None, "__call__": None, "__eq__": 2, "__len__": 1, "__iter__": 1, "__bool__": 1, "__contains__": 2, "__getitem__": 2,
    "__add__": 2, "__sub__": 2, "__invert__": 1,
}
OPERATORS = ("__eq__", "__len__", "__bool__", "__contains__", "__getitem__", "__add__", "__sub__", "__invert__")
DECORATORS = ("property", "staticmethod", "classmethod")
CHANGING = set("append clear extend insert pop remove reverse setdefault update add discard sort".split())
NEW_LISTS = ("list", "dict", "set", "sorted")
BUILTIN_METHODS = {name for kind in (str, bytes, int, list, tuple, dict, set) for name in dir(kind)}
FREE_ATTRIBUTES = set("count index title find get join lower upper split strip copy add".split())


def class_faults(tree):
    """All faults of the classes of a file, of L4, L5, L26 and L28."""
    classes = {node.name: node for node in tree.body if isinstance(node, ast.ClassDef)}
    methods = {method: node for node in classes.values() for method in node.body if isinstance(method, ast.FunctionDef)}
    found = decorator_faults(tree, methods) + super_faults(tree, methods)
    for method, around in methods.items():
        found += [f"{fault}, line {method.lineno}" for fault in method_faults(method, around)]
    for node in classes.values():
        found += [f"{fault}, line {node.lineno}" for fault in body_faults(node, classes)]
    return found


def decorators_of(function):
    return [node.id for node in function.decorator_list if isinstance(node, ast.Name)]


def decorator_faults(tree, methods):
    found = []
    for node in ast.walk(tree):
        if isinstance(node, ast.FunctionDef) and node.decorator_list:
            names = decorators_of(node)
            if node not in methods or len(node.decorator_list) != 1 or len(names) != 1 or names[0] not in DECORATORS:
                found.append(f"L4: line {node.lineno}: a decorator")
        if isinstance(node, ast.ClassDef) and node.decorator_list:
            found.append(f"L5: line {node.lineno}: a decorator")
    return found


def super_faults(tree, methods):
    """L5: super() stands as super().told(..) in a plain method, or as super().__init__(..) in an __init__."""
    good = set()
    for method in methods:
        if not decorators_of(method):
            for node in ast.walk(method):
                if isinstance(node, ast.Call) and isinstance(node.func, ast.Attribute) and is_super(node.func.value):
                    if not node.func.attr.startswith("__") or node.func.attr == "__init__" == method.name:
                        good.add(node.func.value.func)
    return [f"L5: line {node.lineno}: super" for node in ast.walk(tree)
            if isinstance(node, ast.Name) and node.id == "super" and node not in good]


def is_super(node):
    return isinstance(node, ast.Call) and isinstance(node.func, ast.Name) and node.func.id == "super" and not node.args


def method_faults(method, around):
    name = method.name
    many = len(method.args.args)
    if name.startswith("__"):
        if name not in DOUBLES:
            return [f"L5: {name}"]
        if DOUBLES[name] not in (None, many) or method.args.defaults and name not in ("__init__", "__call__"):
            return [f"L5: the parameters of {name}"]
        return double_faults(method, around.name)
    if name in BUILTIN_METHODS:
        return [f"L26: the method {name}"]
    if "property" in decorators_of(method) and many != 1:
        return [f"L5: the parameters of {name}"]
    return []


def rows_of(method):
    return method.body[1:] if ast.get_docstring(method) is not None else method.body


def double_faults(method, name):
    """L5, L28: the forms of the double-underscore methods that the package uses."""
    rows = [ast.unparse(row) for row in rows_of(method)]
    wrong = [f"L28: the form of {method.name}"]
    if method.name == "__init__":
        return wrong if any(isinstance(node, ast.Return) for node in ast.walk(method)) else []
    if method.name == "__eq__":
        good = (f"return isinstance(other, {name}) and ", f"if not isinstance(other, {name}):\n    return False")
        return [] if rows[0].startswith(good) else wrong
    if method.name == "__len__":
        return [] if len(rows) == 1 and rows[0].startswith("return len(") else wrong
    if method.name == "__bool__":
        return [] if rows[-1].startswith("return bool(") else wrong
    if method.name == "__iter__":
        return [] if len(rows) == 1 and rows[0].startswith(("raise TypeError('", "return iter(self.")) else wrong
    return []


def body_faults(node, classes):
    """L5, L18, L26: the names of a class, and what stands in its body."""
    found = []
    family = [node] + [classes[base.id] for base in node.bases if isinstance(base, ast.Name) and base.id in classes]
    names = [row.name for row in node.body if isinstance(row, ast.FunctionDef)]
    found += [f"L18: {name} is defined twice" for name in set(names) if names.count(name) > 1]
    if "__getitem__" in names and not any(isinstance(row, ast.FunctionDef) and row.name == "__iter__"
                                          for one in family for row in one.body):
        found.append("L5: __getitem__ without __iter__")
    for row in node.body:
        if isinstance(row, ast.Assign):
            if not isinstance(row.targets[0], ast.Name) or not is_plain(row.value):
                found.append("L5: a class value of another form")
        elif not isinstance(row, ast.FunctionDef) and not (isinstance(row, ast.Expr) and isinstance(row.value, ast.Constant)):
            found.append("L5: a statement in a class")
    values = [row.targets[0].id for row in node.body if isinstance(row, ast.Assign)]
    for name in attributes_of(node):
        if any(name in own_names(one) for one in family) or name in values:
            found.append(f"L18: {name} is a method and an attribute")
        if name in BUILTIN_METHODS - FREE_ATTRIBUTES:
            found.append(f"L26: the attribute {name}")
    return found


def is_plain(node):
    if isinstance(node, ast.Tuple):
        return all(is_plain(item) for item in node.elts)
    return isinstance(node, ast.Constant)


def own_names(node):
    return [row.name for row in node.body if isinstance(row, ast.FunctionDef)]


def attributes_of(node):
    """The attributes that the methods of a class assign to self."""
    return {target.attr for target in ast.walk(node) if isinstance(target, ast.Attribute) and isinstance(target.ctx, ast.Store)}


def package_faults(modules):
    """L5, L18: what only all files together show; modules are the texts of the package's files by their names."""
    trees = {name: ast.parse(text) for name, text in modules.items()}
    classes = [node for tree in trees.values() for node in tree.body if isinstance(node, ast.ClassDef)]
    methods = [row for node in classes for row in node.body if isinstance(row, ast.FunctionDef)]
    plain = {row.name for row in methods if not decorators_of(row)}
    values = {row.targets[0].id for node in classes for row in node.body if isinstance(row, ast.Assign)}
    found = []
    for row in methods:
        if decorators_of(row) and row.name in plain | values:
            found.append(f"L5: {row.name} has a decorator here, and none there")
    assigned = {name for node in classes for name in attributes_of(node)}
    known = assigned | plain | values | {row.name for row in methods} | BUILTIN_METHODS
    for name, tree in trees.items():
        for node in ast.walk(tree):
            if isinstance(node, ast.Attribute) and node.attr not in known:
                found.append(f"L18: {name}: no class has {node.attr}")
    return found + operator_faults(trees)


def operator_faults(trees):
    """L5: what an operator or a property runs, also by the functions that it calls, changes nothing it did not create."""
    functions = {(name, row.name): row for name, tree in trees.items() for row in tree.body if isinstance(row, ast.FunctionDef)}
    waiting = []
    for name, tree in trees.items():
        for node in tree.body:
            if isinstance(node, ast.ClassDef):
                waiting += [(name, row) for row in node.body if isinstance(row, ast.FunctionDef)
                            and (row.name in OPERATORS or "property" in decorators_of(row))]
    found = []
    seen = set()
    while waiting:
        name, function = waiting.pop()
        if function not in seen:
            seen.add(function)
            found += [f"L5: {name}, line {line}: {fault}" for line, fault in change_faults(function)]
            waiting += called_by(name, function, trees, functions)
    return found


def called_by(name, function, trees, functions):
    """The functions and methods that a function calls, each with its file; of a class its __init__."""
    origin = {alias.asname or alias.name: row.module.split(".")[1] for row in trees[name].body
              if isinstance(row, ast.ImportFrom) and row.module.startswith("bothreaders.") for alias in row.names}
    found = []
    for node in ast.walk(function):
        if isinstance(node, ast.Call) and isinstance(node.func, ast.Name):
            where = origin.get(node.func.id, name)
            if (where, node.func.id) in functions:
                found.append((where, functions[where, node.func.id]))
            found += methods_named(trees, node.func.id, "__init__")
        if isinstance(node, ast.Call) and isinstance(node.func, ast.Attribute):
            found += methods_named(trees, None, node.func.attr)
    return found


def methods_named(trees, around, name):
    return [(where, row) for where, tree in trees.items() for node in tree.body if isinstance(node, ast.ClassDef)
            and around in (None, node.name) for row in node.body if isinstance(row, ast.FunctionDef) and row.name == name]


def change_faults(function):
    """The rows of a function that change what it did not create; __init__ may assign to its own object."""
    created = created_names(function)
    objects = {"self"} if function.name == "__init__" else new_objects(function)
    locals_bound = {node.id for node in ast.walk(function) if isinstance(node, ast.Name) and isinstance(node.ctx, ast.Store)}
    locals_bound |= {node.arg for node in function.args.args}
    found = []
    for node in ast.walk(function):
        if isinstance(node, ast.AugAssign):
            if not isinstance(node.target, ast.Name) or not isinstance(node.op, ast.Add) or not isinstance(node.value, ast.Constant):
                found.append((node.lineno, ast.unparse(node)))
        elif isinstance(node, (ast.Attribute, ast.Subscript)) and isinstance(node.ctx, (ast.Store, ast.Del)):
            good = objects if isinstance(node, ast.Attribute) else created
            if not isinstance(node.value, ast.Name) or node.value.id not in good:
                found.append((node.lineno, ast.unparse(node)))
        elif isinstance(node, ast.Call) and isinstance(node.func, ast.Attribute) and node.func.attr in CHANGING:
            if not isinstance(node.func.value, ast.Name) or node.func.value.id not in created:
                found.append((node.lineno, ast.unparse(node)))
        elif isinstance(node, ast.Call) and isinstance(node.func, ast.Name) and node.func.id in locals_bound:
            found.append((node.lineno, ast.unparse(node)))
    return found


def assignments_of(function):
    found = {}
    for node in ast.walk(function):
        if isinstance(node, ast.Assign):
            for target in node.targets:
                for name in ast.walk(target):
                    if isinstance(name, ast.Name) and isinstance(name.ctx, ast.Store):
                        found.setdefault(name.id, []).append(node.value if target is name else None)
        elif isinstance(node, (ast.For, ast.comprehension)):
            for name in ast.walk(node.target):
                if isinstance(name, ast.Name):
                    found.setdefault(name.id, []).append(None)
    for node in function.args.args:
        found.setdefault(node.arg, []).append(None)
    return found


def created_names(function):
    return {name for name, values in assignments_of(function).items() if all(is_creation(value) for value in values)}


def is_creation(value):
    if isinstance(value, (ast.List, ast.Dict, ast.Set, ast.ListComp, ast.DictComp)):
        return True
    return isinstance(value, ast.Call) and isinstance(value.func, ast.Name) and value.func.id in NEW_LISTS


def new_objects(function):
    return {name for name, values in assignments_of(function).items()
            if all(isinstance(value, ast.Call) and isinstance(value.func, ast.Name) and value.func.id[0].isupper() for value in values)}

"""Which lists, dicts and sets are changed in what operators and properties run (L5, L28)."""

import ast

MUTATING = {
    "append", "extend", "insert", "pop", "remove", "reverse", "clear", "sort", "setdefault",
    "update", "add", "discard",
}
MAKING = {"list", "dict", "set", "sorted"}
FREE = {"__init__", "__call__"}
DISPLAYS = (ast.List, ast.Dict, ast.Set, ast.ListComp, ast.DictComp, ast.SetComp)


class Package:
    """The functions and methods of some files, by their names."""

    def __init__(self, texts):
        self.functions = {}
        self.methods = {}
        self.classes = {}
        for text in texts:
            for node in ast.parse(text).body:
                if isinstance(node, ast.FunctionDef):
                    self.functions[node.name] = node
                elif isinstance(node, ast.ClassDef):
                    self.classes[node.name] = node
        for one in self.classes.values():
            for node in one.body:
                if isinstance(node, ast.FunctionDef):
                    self.methods.setdefault(node.name, []).append(node)

    def roots(self):
        """Return the methods of operators, and the properties."""
        return [
            node
            for nodes in self.methods.values()
            for node in nodes
            if node.name.startswith("__") and node.name not in FREE
            or any(getattr(mark, "id", "") == "property" for mark in node.decorator_list)
        ]

    def named_in(self, function):
        """Return the functions and methods that a function names, called or passed on."""
        found = []
        for node in ast.walk(function):
            if isinstance(node, ast.Attribute):
                found += self.methods.get(node.attr, [])
            elif isinstance(node, ast.Name) and node.id in self.functions:
                found.append(self.functions[node.id])
            elif isinstance(node, ast.Name) and (node.id in self.classes or node.id == "cls"):
                found += self.methods.get("__init__", [])
        return found

    def run(self):
        """Return all that operators and properties run, through what they call, too."""
        found, waiting = [], self.roots()
        while waiting:
            node = waiting.pop()
            if not any(node is one for one in found):
                found.append(node)
                waiting += self.named_in(node)
        return found


def bindings(function, name):
    """Return the values that a local name is assigned, None for each other kind of binding."""
    found = [None for one in ast.walk(function.args) if isinstance(one, ast.arg) and one.arg == name]
    plain = []
    for node in ast.walk(function):
        if isinstance(node, ast.Assign):
            for target in node.targets:
                if isinstance(target, ast.Name) and target.id == name:
                    plain.append(target)
                    found.append(node.value)
    for node in ast.walk(function):
        if isinstance(node, ast.Name) and node.id == name and isinstance(node.ctx, ast.Store):
            if not any(node is one for one in plain):
                found.append(None)
    return found


def is_new(value, times_is_own):
    """Tell whether a value plainly is a new list, dict or set."""
    if isinstance(value, DISPLAYS):
        return True
    if isinstance(value, ast.Call) and isinstance(value.func, ast.Name):
        return value.func.id in MAKING
    if isinstance(value, ast.Call) and isinstance(value.func, ast.Attribute):
        return value.func.attr == "copy"
    if isinstance(value, ast.Subscript):
        return isinstance(value.slice, ast.Slice)
    if isinstance(value, ast.BinOp) and isinstance(value.op, ast.Add):
        return is_new(value.left, times_is_own) or is_new(value.right, times_is_own)
    if isinstance(value, ast.BinOp) and isinstance(value.op, ast.Mult):
        return not times_is_own and any(isinstance(one, ast.List) for one in (value.left, value.right))
    return False


def holds_new(value, times_is_own):
    """Tell whether a value plainly is a new list of new lists, dicts or sets."""
    return isinstance(value, ast.ListComp) and is_new(value.elt, times_is_own)


def is_owned(function, place, times_is_own):
    """Tell whether what stands at a place is a list, dict or set that the function created."""
    test = is_new
    if isinstance(place, ast.Subscript) and not isinstance(place.slice, ast.Slice):
        place, test = place.value, holds_new
    if not isinstance(place, ast.Name):
        return False
    values = bindings(function, place.id)
    return bool(values) and all(value is not None and test(value, times_is_own) for value in values)


def changed_places(function):
    """Return the places whose items a function changes, and the attributes that it assigns."""
    found = []
    for node in ast.walk(function):
        if isinstance(node, ast.Subscript) and not isinstance(node.ctx, ast.Load):
            found.append(node.value)
        elif isinstance(node, ast.Attribute) and not isinstance(node.ctx, ast.Load):
            found.append(node)
        elif isinstance(node, ast.Call) and isinstance(node.func, ast.Attribute):
            if node.func.attr in MUTATING:
                found.append(node.func.value)
        elif isinstance(node, ast.AugAssign) and not isinstance(node.value, ast.Constant):
            found.append(node.target)
    return found


def is_own_attribute(function, place):
    """Tell whether an __init__ assigns an attribute to its own object."""
    return (
        function.name == "__init__"
        and isinstance(place, ast.Attribute)
        and isinstance(place.ctx, ast.Store)
        and getattr(place.value, "id", "") == function.args.args[0].arg
    )


def faults(texts):
    """Return tuples (function, row) of all that operators and properties may not change."""
    package = Package(texts)
    times_is_own = bool({"__mul__", "__rmul__"} & set(package.methods))
    return sorted(
        (function.name, place.lineno)
        for function in package.run()
        for place in changed_places(function)
        if not is_own_attribute(function, place) and not is_owned(function, place, times_is_own)
    )

"""L23 of LANGUAGE.md: what a loop walks is not changed in it.

Names are followed through assignments: a name that is assigned an item of a
list, or the list itself, is told by that list, and so is what is chosen by it.
A list is also followed if it is a field: by its name, whatever object has it.
This finds more than the rule needs; where it does, `list(..)` is walked.
"""

import ast

CHANGING = {
    "append", "pop", "extend", "insert", "remove", "reverse", "clear", "update", "setdefault", "add", "discard", "sort",
}
ON_HEAPS = {"heappush", "heappop", "heapify", "heapreplace", "heappushpop"}
# What these make is new, or no list at all: to change it changes nothing else.
NEW = {
    "list", "tuple", "dict", "set", "sorted", "len", "range", "sum", "min", "max", "abs", "int", "str", "bool", "any", "all",
}
NEW_NODES = (
    ast.ListComp, ast.SetComp, ast.DictComp, ast.GeneratorExp, ast.BinOp, ast.UnaryOp, ast.Compare, ast.List, ast.Tuple,
    ast.Dict, ast.JoinedStr, ast.Lambda,
)
COMPREHENSIONS = (ast.ListComp, ast.SetComp, ast.DictComp, ast.GeneratorExp)


def changed_rows(tree):
    """The rows of a file, ascending, in which a loop or a comprehension changes what it walks."""
    rows = set()
    for function in ast.walk(tree):
        if isinstance(function, ast.FunctionDef):
            told = told_by(function)
            for heads, inside in loops(function):
                walked = followed(set().union(*[sources(head) for head in heads]), told)
                for part in inside:
                    if followed(changed(part), told) & walked:
                        rows.add(part.lineno)
    return sorted(rows)


def loops(function):
    """For each loop and comprehension what it walks, and all that stands in it."""
    for node in ast.walk(function):
        if isinstance(node, ast.For):
            yield [node.iter], [part for row in node.body for part in ast.walk(row)]
        elif isinstance(node, COMPREHENSIONS):
            yield [loop.iter for loop in node.generators], list(ast.walk(node))


def sources(node):
    """The names and fields (`.rows`) that tell what a value is."""
    if isinstance(node, NEW_NODES) or (isinstance(node, ast.Call) and isinstance(node.func, ast.Name) and node.func.id in NEW):
        return set()
    if isinstance(node, ast.Name):
        return {node.id} - {"self"}
    if isinstance(node, ast.Attribute):
        return sources(node.value) | {f".{node.attr}"}
    parts = list(ast.iter_child_nodes(node))
    if isinstance(node, ast.Call):
        # The name of a function or of a method tells no list, its object and its arguments may.
        parts = node.args + ([node.func.value] if isinstance(node.func, ast.Attribute) else [])
    return set().union(*[sources(part) for part in parts])


def told_by(function):
    """For each name and field that a function assigns what tells it."""
    told = {}
    for node in ast.walk(function):
        if isinstance(node, ast.Assign):
            for target in node.targets:
                tell(told, target, node.value)
        elif isinstance(node, ast.For):
            tell(told, node.target, node.iter)
        elif isinstance(node, ast.NamedExpr):
            tell(told, node.target, node.value)
    return told


def tell(told, target, value):
    if isinstance(target, (ast.Tuple, ast.List)):
        values = [value] * len(target.elts)
        if isinstance(value, ast.Tuple) and len(value.elts) == len(target.elts):
            values = value.elts
        for one, its in zip(target.elts, values):
            tell(told, one, its)
    elif isinstance(target, ast.Starred):
        tell(told, target.value, value)
    elif isinstance(target, ast.Name):
        told.setdefault(target.id, set()).update(sources(value))
    elif isinstance(target, ast.Attribute):
        told.setdefault(f".{target.attr}", set()).update(sources(value))


def followed(names, told):
    """The names and fields, and all that tell them."""
    found = set(names)
    line = list(names)
    while line:
        more = told.get(line.pop(), set()) - found
        found |= more
        line.extend(more)
    return found


def changed(part):
    """The names and fields of the lists and dicts that a statement or a call changes, if any."""
    if isinstance(part, ast.Call):
        if isinstance(part.func, ast.Attribute) and part.func.attr in CHANGING:
            return base_of(part.func.value)
        if isinstance(part.func, ast.Name) and part.func.id in ON_HEAPS:
            return base_of(part.args[0])
    targets = part.targets if isinstance(part, (ast.Assign, ast.Delete)) else []
    found = set()
    for target in [one for row in targets for one in (row.elts if isinstance(row, ast.Tuple) else [row])]:
        if isinstance(target, ast.Subscript):
            found |= base_of(target)
    if isinstance(part, ast.AugAssign):
        found |= base_of(part.target)
    return found


def base_of(node):
    """The name or the fields of the list that is meant by a name, a field or an item."""
    if isinstance(node, ast.Subscript):
        return base_of(node.value)
    if isinstance(node, ast.Attribute):
        inner = set() if isinstance(node.value, ast.Name) else base_of(node.value)
        return inner | {f".{node.attr}"}
    return {node.id} if isinstance(node, ast.Name) else set()

"""Looks for loops that walk what they change, also under another name of it (rule L23)."""

import ast

MODIFIERS = set("append clear extend insert pop remove reverse setdefault update add discard sort".split())
WALKERS = {"enumerate", "zip", "reversed", "map", "iter", "chain", "pairwise"}
VIEWS = {"items", "keys", "values"}
LOOPS = (ast.For, ast.ListComp, ast.DictComp, ast.SetComp, ast.GeneratorExp)


def path_of(node):
    """Return a text for a name, an attribute or an item, or None."""
    if isinstance(node, ast.Name):
        return node.id
    if isinstance(node, ast.Attribute):
        base = path_of(node.value)
        return None if base is None else f"{base}.{node.attr}"
    if isinstance(node, ast.Subscript) and not isinstance(node.slice, ast.Slice):
        base = path_of(node.value)
        return None if base is None else f"{base}[]"
    return None


def choices_of(node):
    """Return the nodes whose value the node can have itself."""
    if isinstance(node, ast.IfExp):
        return choices_of(node.body) + choices_of(node.orelse)
    if isinstance(node, ast.BoolOp):
        return [found for value in node.values for found in choices_of(value)]
    if isinstance(node, ast.NamedExpr):
        return [node.target] + choices_of(node.value)
    return [node]


def walked_paths(node):
    """Return the paths of what an iteration over this node walks."""
    found = []
    for choice in choices_of(node):
        if path_of(choice):
            found.append(path_of(choice))
        elif isinstance(choice, ast.Call):
            func = choice.func
            if isinstance(func, ast.Name) and func.id in WALKERS:
                found.extend(path for arg in choice.args for path in walked_paths(arg))
            elif isinstance(func, ast.Attribute) and func.attr in VIEWS | {"get", "setdefault"}:
                suffix = "" if func.attr in VIEWS else "[]"
                found.extend(path + suffix for path in walked_paths(func.value))
    return found


class Names:
    """Which paths of a function can stand for the same value."""

    def __init__(self, function):
        self.boss = {}
        for node in ast.walk(function):
            if isinstance(node, ast.Assign):
                for target in node.targets:
                    self._bind(target, node.value)
            elif isinstance(node, (ast.For, ast.comprehension)):
                for path in walked_paths(node.iter):
                    if path_of(node.target):
                        self._join(path_of(node.target), f"{path}[]")

    def _bind(self, target, value):
        if isinstance(target, ast.Tuple) and isinstance(value, ast.Tuple):
            for one, two in zip(target.elts, value.elts):
                self._bind(one, two)
            return
        for choice in choices_of(value):
            if path_of(target) and path_of(choice):
                self._join(path_of(target), path_of(choice))

    def root(self, path):
        """Return the path that stands for all that are the same."""
        while path in self.boss:
            path = self.boss[path]
        return path

    def _join(self, one, two):
        if self.root(one) != self.root(two):
            self.boss[self.root(one)] = self.root(two)


def changed_in(node, changers):
    """Yield pairs (path, node) of what is changed directly in a node."""
    for inner in ast.walk(node):
        if isinstance(inner, ast.Call):
            if isinstance(inner.func, ast.Attribute) and inner.func.attr in MODIFIERS:
                yield path_of(inner.func.value), inner
            name = getattr(inner.func, "id", None) or getattr(inner.func, "attr", None)
            for place in changers.get(name, ()):
                if place < len(inner.args):
                    yield path_of(inner.args[place]), inner
        elif isinstance(inner, ast.Subscript) and isinstance(inner.ctx, (ast.Store, ast.Del)):
            yield path_of(inner.value), inner
        elif isinstance(inner, ast.AugAssign):
            yield path_of(inner.target), inner


def changers_of(trees):
    """Return for each function the places of the parameters that it changes."""
    found = {}
    for tree in trees:
        for node in ast.walk(tree):
            if isinstance(node, ast.FunctionDef):
                names = [arg.arg for arg in node.args.args]
                names = names[1:] if names[:1] == ["self"] else names
                changed = {path for path, _ in changed_in(node, {}) if path}
                found[node.name] = [place for place, name in enumerate(names) if name in changed]
    return found


def faults_in(function, changers):
    """Return pairs (node, path) of changes in a function of what a loop around them walks."""
    names = Names(function)
    found = []
    for loop in ast.walk(function):
        if not isinstance(loop, LOOPS):
            continue
        iters = [loop.iter] if isinstance(loop, ast.For) else [part.iter for part in loop.generators]
        walked = {names.root(path): path for node in iters for path in walked_paths(node)}
        body = ast.Module(body=loop.body, type_ignores=[]) if isinstance(loop, ast.For) else loop
        for path, node in changed_in(body, changers):
            if path and names.root(path) in walked:
                found.append((node, path))
        if isinstance(loop, ast.For):
            for inner in ast.walk(body):
                stored = isinstance(inner, ast.Name) and isinstance(inner.ctx, ast.Store)
                if stored and inner.id in walked.values():
                    found.append((inner, inner.id))
    return found

"""Looks through the package for code outside the subset of the language that it is written in.

It finds what a walk over the syntax tree can find, rule by rule. It does not
replace reading each file against the rules.
"""

import ast
import builtins
import io
import os
import re
import tokenize

from tests.loops import changers_of, faults_in

ALLOWED_BUILTINS = set(
    "len range enumerate zip min max sum abs sorted reversed int str bool bytes list tuple dict set "
    "frozenset isinstance ord repr any all divmod pow getattr hasattr setattr iter next map super "
    "Exception ValueError TypeError KeyError IndexError LookupError ZeroDivisionError ArithmeticError "
    "OverflowError RuntimeError NotImplementedError AttributeError StopIteration NotImplemented "
    "property staticmethod classmethod".split()
)
BUILTIN_NAMES = set(dir(builtins)) | {"copyright", "credits", "exit", "license", "quit", "help"}
LIBRARY = {"math": {"gcd", "lcm", "isqrt", "comb", "perm", "factorial"},
           "heapq": {"heappush", "heappop", "heapify", "heapreplace", "heappushpop"}}
METHODS = set(
    "append clear copy count endswith extend find get index insert isalnum isalpha isdigit islower "
    "isspace isupper items join keys ljust lower lstrip partition pop remove replace reverse rfind "
    "rjust rpartition rsplit rstrip setdefault split splitlines startswith strip update upper values "
    "zfill bit_length title capitalize swapcase casefold center expandtabs removeprefix removesuffix "
    "rindex isascii isdecimal isnumeric istitle isidentifier isprintable translate".split()
)
BARRED_ATTRIBUTES = set(
    "items keys values pop update append clear extend insert remove reverse setdefault sort args "
    "encode decode hex fromhex format format_map mro".split()
)
NOWHERE = {"register", "mro", "elements", "open", "input", "law", "version_info", "with_traceback", "add_note"}
NOT_NAMES = set(
    "attrgetter breakpoint builtins compile copyright credits delattr dir eval exec exit gc getattr "
    "globals hasattr help id importlib license locals methodcaller os quit setattr super type vars sys".split()
)
NOT_WORDS = set(
    "type typing typing_extensions enum Enum IntEnum StrEnum Flag IntFlag Generic Protocol ABC ABCMeta "
    "namedtuple NamedTuple TypedDict TYPE_CHECKING abstractmethod _wall _WallAttr".split()
)
DUNDERS = set(
    "__init__ __eq__ __repr__ __str__ __len__ __enter__ __exit__ __call__ __iter__ __lt__ __le__ __gt__ "
    "__ge__ __ne__ __add__ __sub__ __mul__ __floordiv__ __mod__ __pow__ __and__ __or__ __xor__ "
    "__lshift__ __rshift__ __neg__ __pos__ __invert__ __abs__ __bool__ __contains__ __getitem__ "
    "__setitem__".split()
)
QUIET = DUNDERS - {"__init__", "__enter__", "__exit__", "__call__", "__iter__", "__setitem__"}
LAZY = {"zip", "enumerate", "range", "reversed"}
LAZY_METHODS = {"items", "keys", "values"}
EATERS = {"list", "tuple", "dict", "sorted", "sum", "any", "all", "enumerate", "zip"}
MODIFIERS = set("append clear extend insert pop remove reverse setdefault update add discard".split())
STATEMENTS = (
    ast.Assign, ast.AugAssign, ast.If, ast.While, ast.For, ast.Return, ast.Break, ast.Continue, ast.Pass,
    ast.Raise, ast.Assert, ast.Delete, ast.Nonlocal, ast.With, ast.Try, ast.Expr, ast.FunctionDef,
    ast.ClassDef, ast.ImportFrom,
)
FUNCTIONS = (ast.FunctionDef, ast.Lambda)
COMPREHENSIONS = (ast.ListComp, ast.DictComp, ast.SetComp, ast.GeneratorExp)


def plain_value(node):
    """Tell whether the node is a literal that may stand at module level."""
    if isinstance(node, ast.Constant):
        return True
    if isinstance(node, ast.UnaryOp):
        return isinstance(node.op, ast.USub) and isinstance(node.operand, ast.Constant)
    if isinstance(node, (ast.Tuple, ast.List)):
        return all(plain_value(item) or isinstance(item, ast.Name) for item in node.elts)
    if isinstance(node, ast.Dict):
        return all(plain_value(item) or isinstance(item, ast.Name) for item in node.keys + node.values)
    return isinstance(node, ast.BinOp) and plain_value(node.left) and plain_value(node.right)


def targets_of(node):
    """Return the names that are stored in a node, not looking into nested functions."""
    found = []
    for inner in walk_own(node):
        if isinstance(inner, ast.Name) and isinstance(inner.ctx, ast.Store):
            found.append(inner.id)
        elif isinstance(inner, ast.ExceptHandler) and inner.name:
            found.append(inner.name)
        elif isinstance(inner, ast.FunctionDef) and inner is not node:
            found.append(inner.name)
    return found


def is_setter(node):
    """Tell whether a function is the setter of a property."""
    return any(isinstance(item, ast.Attribute) for item in node.decorator_list)


def is_property(node):
    """Tell whether a function is a property or its setter."""
    return is_setter(node) or any(getattr(item, "id", None) == "property" for item in node.decorator_list)


def walk_own(node):
    """Walk over a node and what is in it, but not into nested functions and lambdas."""
    yield node
    for child in ast.iter_child_nodes(node):
        if isinstance(child, FUNCTIONS) and child is not node:
            yield child
        else:
            yield from walk_own(child)


def parameters_of(node):
    """Return the names of all parameters of a function."""
    given = node.args
    found = [arg.arg for arg in given.posonlyargs + given.args + given.kwonlyargs]
    found.extend(arg.arg for arg in (given.vararg, given.kwarg) if arg)
    return found


class Source:
    """One file of the package."""

    def __init__(self, path, module):
        self.module = module
        with open(path, encoding="utf-8", newline="") as stream:
            self.text = stream.read()
        self.tree = ast.parse(self.text)
        self.parents = {}
        for node in ast.walk(self.tree):
            for child in ast.iter_child_nodes(node):
                self.parents[child] = node
        self.defined = {}
        for node in self.tree.body:
            if isinstance(node, (ast.FunctionDef, ast.ClassDef)):
                self.defined[node.name] = node
            elif isinstance(node, ast.Assign):
                self.defined[node.targets[0].id] = node
        self.imports = {}
        for node in ast.walk(self.tree):
            if isinstance(node, ast.ImportFrom):
                for alias in node.names:
                    self.imports[alias.name] = node.module


class Package:
    """All files of the package, and what was found in them."""

    def __init__(self, folder):
        self.name = os.path.basename(folder)
        self.faults = []
        self.sources = []
        for file in sorted(os.listdir(folder)):
            if file == "__pycache__":
                continue
            if not re.fullmatch(r"[a-z0-9_]+\.py", file):
                self.faults.append(f"L1: {file}")
                continue
            module = f"{self.name}.{file[:-3]}" if file != "__init__.py" else self.name
            self.sources.append(Source(os.path.join(folder, file), module))
        self.by_module = {source.module: source for source in self.sources}
        self.classes = {}
        self.methods = set()
        self.properties = set()
        self.attributes = set()
        for source in self.sources:
            self._collect(source)

    def _collect(self, source):
        for node in ast.walk(source.tree):
            if isinstance(node, ast.ClassDef):
                self.classes[node.name] = node
                for inner in node.body:
                    if isinstance(inner, ast.FunctionDef):
                        (self.properties if is_property(inner) else self.methods).add(inner.name)
            if isinstance(node, ast.Attribute) and isinstance(node.ctx, ast.Store):
                self.attributes.add(node.attr)

    def fault(self, source, node, why):
        """Note a fault."""
        self.faults.append(f"{source.module}:{getattr(node, 'lineno', node)}: {why}")

    def look(self):
        """Look through everything and return the faults."""
        changers = changers_of([source.tree for source in self.sources])
        for source in self.sources:
            self._look_text(source)
            self._look_module(source)
            for node in ast.walk(source.tree):
                if isinstance(node, ast.FunctionDef):
                    for inner, path in faults_in(node, changers):
                        self.fault(source, inner, f"L23: {path} is changed in its loop")
            for node in ast.walk(source.tree):
                self._look_node(source, node)
        self._look_cycles()
        self._look_quiet()
        for name in sorted(self.methods & self.attributes):
            self.faults.append(f"L18: {name} is a method and an attribute")
        return self.faults

    def _look_text(self, source):
        lines = source.text.split("\n")
        if len(lines) - 1 > 399:
            self.fault(source, 1, "L10: the file is too long")
        for number, line in enumerate(lines, 1):
            if len(line) > 120:
                self.fault(source, number, "L10: the line is too long")
            if any(not " " <= sign <= "~" for sign in line):
                self.fault(source, number, "L14: a character")
        docs = set()
        for node in ast.walk(source.tree):
            if isinstance(node, (ast.Module, ast.ClassDef, ast.FunctionDef)) and ast.get_docstring(node):
                docs.add(node.body[0].value.lineno)
        for token in tokenize.generate_tokens(io.StringIO(source.text).readline):
            if token.type == tokenize.STRING and token.start[0] in docs:
                continue
            if token.type in (tokenize.NAME, tokenize.STRING):
                for word in re.findall(r"\w+", token.string):
                    if word in NOT_WORDS or re.search("dataclass|overload|contextmanager", word):
                        self.fault(source, token.start[0], f"L17: {word}")

    def _look_module(self, source):
        for at, node in enumerate(source.tree.body):
            if isinstance(node, ast.ImportFrom):
                self._look_import(source, node)
            elif isinstance(node, ast.Assign):
                if len(node.targets) != 1 or not isinstance(node.targets[0], ast.Name):
                    self.fault(source, node, "L3: the target")
                if not plain_value(node.value):
                    self.fault(source, node, "L3: the value")
            elif isinstance(node, ast.Expr):
                if at or not isinstance(node.value, ast.Constant):
                    self.fault(source, node, "L3: an expression")
            elif not isinstance(node, (ast.FunctionDef, ast.ClassDef)):
                self.fault(source, node, "L3: a statement")
        names = list(source.defined) + list(source.imports)
        for name in set(names):
            if names.count(name) > 1:
                self.fault(source, 1, f"L15: {name} is bound twice")
            if name in BUILTIN_NAMES:
                self.fault(source, 1, f"L15: {name}")

    def _look_import(self, source, node):
        if node.level or any(alias.asname or alias.name == "*" for alias in node.names):
            self.fault(source, node, "L2: the form of the import")
        elif node.module in LIBRARY:
            if any(alias.name not in LIBRARY[node.module] for alias in node.names):
                self.fault(source, node, "L2: the library")
        elif node.module not in self.by_module:
            self.fault(source, node, f"L2: {node.module}")
        else:
            for alias in node.names:
                if alias.name not in self.by_module[node.module].defined:
                    self.fault(source, node, f"L16: {alias.name}")
                used = len(re.findall(rf"\b{alias.name}\b", source.text))
                if used < 2:
                    self.fault(source, node, f"{alias.name} is not used")

    def _look_cycles(self):
        links = {s.module: {m for m in s.imports.values() if m in self.by_module} for s in self.sources}
        for start in links:
            seen, waiting = set(), list(links[start])
            while waiting:
                module = waiting.pop()
                if module not in seen:
                    seen.add(module)
                    waiting.extend(links[module])
            if start in seen:
                self.faults.append(f"L16: {start} imports itself through others")

    def _look_node(self, source, node):
        if isinstance(node, ast.stmt) and not isinstance(node, STATEMENTS):
            self.fault(source, node, "L6: the statement")
        if isinstance(node, ast.FunctionDef):
            self._look_function(source, node)
        if isinstance(node, ast.ClassDef):
            self._look_class(source, node)
        if isinstance(node, ast.GeneratorExp):
            self.fault(source, node, "L7: a generator expression")
        if isinstance(node, ast.Constant):
            self._look_constant(source, node)
        if isinstance(node, ast.BinOp) and isinstance(node.op, (ast.Div, ast.MatMult)):
            self.fault(source, node, "L7: the operator")
        if isinstance(node, ast.BinOp) and isinstance(node.op, ast.Pow):
            if not (isinstance(node.right, ast.Constant) and 0 <= node.right.value <= 64):
                self.fault(source, node, "L27: the exponent")
        if isinstance(node, ast.Compare):
            for op, side in zip(node.ops, node.comparators):
                if isinstance(op, (ast.Is, ast.IsNot)) and not isinstance(side, ast.Constant):
                    self.fault(source, node, "L20: is")
        if isinstance(node, ast.Raise) and node.exc is not None:
            call = node.exc
            if not (isinstance(call, ast.Call) and isinstance(call.func, ast.Name)):
                self.fault(source, node, "L19: raise")
        if isinstance(node, ast.Name):
            self._look_name(source, node)
        if isinstance(node, ast.Attribute):
            self._look_attribute(source, node)
        if isinstance(node, ast.Call):
            self._look_call(source, node)
        if isinstance(node, (ast.Set, ast.SetComp)):
            self._look_set(source, node)
        if isinstance(node, ast.ExceptHandler) and not isinstance(node.type, (ast.Name, ast.Tuple)):
            self.fault(source, node, "L19: except")
        if isinstance(node, (ast.AnnAssign, ast.arg)) and node.annotation is not None:
            self.fault(source, node, "L21: an annotation")
        if isinstance(node, ast.Starred):
            in_call = isinstance(source.parents[node], ast.Call)
            plain = isinstance(node.value, ast.Name) or isinstance(node.value, ast.Attribute) and in_call
            if (in_call or isinstance(node.ctx, ast.Store)) and not plain:
                self.fault(source, node, "L6, L7: what has a star")

    def _look_constant(self, source, node):
        if isinstance(node.value, (float, complex)):
            self.fault(source, node, "L7: a float")
        if isinstance(node.value, str):
            text = node.value
            parent = self.parents_expr(source, node)
            if "%" in text and not parent:
                self.fault(source, node, "L27: %")
            if text.endswith(("._", ".__")) or (text.startswith("__") and text.endswith("__")):
                self.fault(source, node, "L27: the string")

    def parents_expr(self, source, node):
        """Tell whether the string is a docstring."""
        return isinstance(source.parents.get(node), ast.Expr)

    def _look_class(self, source, node):
        if node.decorator_list or not isinstance(source.parents[node], ast.Module):
            self.fault(source, node, "L5: the class")
        names = [inner.name for inner in node.body if isinstance(inner, ast.FunctionDef) and not is_setter(inner)]
        for name in names:
            if names.count(name) > 1:
                self.fault(source, node, f"L18: {name} is defined twice")
        if not ast.get_docstring(node):
            self.fault(source, node, "a docstring is missing")

    def _look_function(self, source, node):
        if node.end_lineno - node.lineno + 1 > 40:
            self.fault(source, node, "L10: the function is too long")
        in_class = isinstance(source.parents[node], ast.ClassDef)
        for decorator in node.decorator_list:
            plain = isinstance(decorator, ast.Name) and decorator.id in ("property", "staticmethod", "classmethod")
            setter = isinstance(decorator, ast.Attribute) and decorator.attr == "setter"
            if not in_class or not (plain or setter):
                self.fault(source, node, "L4: a decorator")
        if node.name.startswith("__") and not (in_class and node.name in DUNDERS):
            self.fault(source, node, "L5: the method")
        for default in node.args.defaults + [item for item in node.args.kw_defaults if item]:
            if not plain_value(default):
                self.fault(source, node, "L4: a default value")
        if not node.name.startswith("_") and not is_setter(node) and not ast.get_docstring(node):
            self.fault(source, node, "a docstring is missing")
        if node.name in NOT_NAMES | NOWHERE or (not in_class and node.name in BUILTIN_NAMES):
            self.fault(source, node, f"L17: {node.name}")
        bound = set(parameters_of(node)) | set(targets_of(node))
        for name in sorted(bound):
            outside = set(source.imports) | {key for key in source.defined
                                             if isinstance(source.defined[key], ast.ClassDef)}
            if name in outside or name in BUILTIN_NAMES or name in NOT_NAMES | NOWHERE:
                self.fault(source, node, f"L15: {name}")
            if not re.fullmatch(r"_|_?[A-Za-z][A-Za-z0-9_]*", name):
                self.fault(source, node, f"L12: {name}")
            if isinstance(source.defined.get(name), ast.FunctionDef):
                self.fault(source, node, f"{name} hides a function of the file")

    def _bound_around(self, source, node):
        found = set()
        while node in source.parents:
            node = source.parents[node]
            if isinstance(node, FUNCTIONS):
                found |= set(parameters_of(node)) | set(targets_of(node))
            if isinstance(node, COMPREHENSIONS):
                found |= set(targets_of(node))
        return found

    def _look_name(self, source, node):
        name = node.id
        if isinstance(node.ctx, ast.Load):
            if name == "_":
                self.fault(source, node, "L12: _ is read")
            known = set(source.defined) | set(source.imports) | self._bound_around(source, node)
            of_setter = isinstance(source.parents[node], ast.Attribute) and source.parents[node].attr == "setter"
            if name not in known and name not in ALLOWED_BUILTINS and not of_setter:
                self.fault(source, node, f"L8: {name}")
        if name in self.classes and isinstance(node.ctx, ast.Load):
            parent = source.parents[node]
            static = isinstance(parent, ast.Attribute)
            if not (static or isinstance(parent, (ast.Call, ast.ClassDef, ast.ExceptHandler, ast.Tuple, ast.Raise))):
                self.fault(source, node, f"L18: {name}")
            if isinstance(parent, ast.Call) and node in parent.args:
                if not (isinstance(parent.func, ast.Name) and parent.func.id == "isinstance"):
                    self.fault(source, node, f"L18: {name} is passed on")

    def _look_attribute(self, source, node):
        name = node.attr
        if name in NOWHERE:
            self.fault(source, node, f"L17: {name}")
        if isinstance(node.ctx, ast.Store) and name in BARRED_ATTRIBUTES:
            self.fault(source, node, f"L26: {name}")
        parent = source.parents[node]
        called = isinstance(parent, ast.Call) and parent.func is node
        if called and name not in METHODS | self.methods:
            self.fault(source, node, f"L25: {name}")
        if not called and isinstance(node.ctx, ast.Load):
            if name not in self.attributes | self.methods | self.properties and name != "setter":
                self.fault(source, node, f"L18: {name} is not assigned")

    def _look_call(self, source, node):
        func = node.func
        lazy = isinstance(func, ast.Name) and func.id in LAZY
        if isinstance(func, ast.Attribute) and func.attr in LAZY_METHODS and not node.args:
            lazy = True
        if lazy and not self._is_eaten(source, node):
            self.fault(source, node, "L23: it is not iterated at once")
        if isinstance(func, ast.Name) and func.id == "set" and not func.id in source.defined:
            self._look_set(source, node)
        if isinstance(func, ast.Name) and func.id in ALLOWED_BUILTINS:
            allowed = {"sorted": {"key", "reverse"}, "min": {"key", "default"}, "max": {"key", "default"},
                       "sum": {"start"}, "enumerate": {"start"}, "zip": {"strict"}}.get(func.id, set())
            if any(keyword.arg not in allowed for keyword in node.keywords):
                self.fault(source, node, "L22: a keyword")

    def _is_eaten(self, source, node):
        parent = source.parents[node]
        if isinstance(parent, (ast.For, ast.comprehension)):
            return parent.iter is node
        if isinstance(parent, ast.Compare):
            return isinstance(parent.ops[0], (ast.In, ast.NotIn))
        if not isinstance(parent, ast.Call) or node not in parent.args:
            return False
        if isinstance(parent.func, ast.Attribute):
            return parent.func.attr == "join" and isinstance(parent.func.value, ast.Constant)
        name = getattr(parent.func, "id", None)
        of_range = isinstance(node.func, ast.Name) and node.func.id == "range"
        if name in ("reversed", "len"):
            return of_range
        if name in ("zip", "min", "max"):
            return name == "zip" or len(parent.args) == 1
        return name in EATERS and parent.args[0] is node

    def _look_set(self, source, node):
        parent = source.parents[node]
        if isinstance(parent, ast.Call) and getattr(parent.func, "id", None) in ("sorted", "len"):
            return
        if isinstance(parent, ast.Compare):
            return
        self.fault(source, node, "L24: a set")

    def _look_quiet(self):
        """Look at operators, properties and what they call (L5 Operators, L5 Properties)."""
        functions = {}
        for source in self.sources:
            for node in ast.walk(source.tree):
                if isinstance(node, ast.FunctionDef):
                    functions.setdefault(node.name, []).append((source, node))
        waiting = []
        for rows in functions.values():
            for source, node in rows:
                if node.name in QUIET or (is_property(node) and not is_setter(node)):
                    waiting.append((source, node))
        seen = []
        while waiting:
            source, node = waiting.pop()
            if node in seen:
                continue
            seen.append(node)
            self._look_quiet_function(source, node)
            for inner in ast.walk(node):
                if isinstance(inner, ast.Call):
                    name = getattr(inner.func, "id", None) or getattr(inner.func, "attr", None)
                    if name in self.classes:
                        made = [item for item in functions["__init__"]
                                if item[0].parents[item[1]] is self.classes[name]]
                        waiting.extend(made)
                    waiting.extend(functions.get(name, []))

    def _look_quiet_function(self, source, node):
        own = self._own_values(node)
        for inner in ast.walk(node):
            if isinstance(inner, ast.AugAssign):
                number = isinstance(inner.value, ast.Constant) and isinstance(inner.value.value, int)
                if not (isinstance(inner.target, ast.Name) and number and isinstance(inner.op, ast.Add)):
                    self.fault(source, inner, "L5 Operators: an augmented assignment")
            if isinstance(inner, ast.Attribute) and isinstance(inner.ctx, ast.Store):
                if node.name != "__init__" or getattr(inner.value, "id", None) != "self":
                    self.fault(source, inner, "L5 Operators: an attribute is assigned")
            if isinstance(inner, ast.Subscript) and isinstance(inner.ctx, (ast.Store, ast.Del)):
                if getattr(inner.value, "id", None) not in own:
                    self.fault(source, inner, "L5 Operators: an item is assigned")
            if isinstance(inner, ast.Call) and isinstance(inner.func, ast.Attribute):
                value = inner.func.value
                nested = isinstance(value, ast.Call) and getattr(value.func, "attr", None) == "setdefault"
                if isinstance(value, ast.Subscript):
                    nested = getattr(value.value, "id", None) in self._lists_of_lists(node)
                if inner.func.attr in MODIFIERS and not nested and getattr(value, "id", None) not in own:
                    self.fault(source, inner, "L5 Operators: something is modified")
            if isinstance(inner, ast.Call) and isinstance(inner.func, ast.Name):
                if inner.func.id in parameters_of(node) and inner.func.id != "cls":
                    self.fault(source, inner, "L5 Operators: a parameter is called")
            if isinstance(inner, (ast.Yield, ast.YieldFrom, ast.Lambda)):
                self.fault(source, inner, "L5 Operators: yield or lambda")

    def _lists_of_lists(self, node):
        """Return the names that are assigned once, as a new list of new lists."""
        names = targets_of(node)
        found = set()
        for inner in ast.walk(node):
            if isinstance(inner, ast.Assign) and isinstance(inner.value, ast.ListComp):
                if isinstance(inner.value.elt, ast.List) and not inner.value.elt.elts:
                    found |= {name for name in targets_of(inner.targets[0]) if names.count(name) == 1}
        return found

    def _own_values(self, node):
        found, other = set(), set(parameters_of(node))
        for inner in ast.walk(node):
            if isinstance(inner, (ast.For, ast.comprehension)):
                other |= set(targets_of(inner.target))
            if isinstance(inner, ast.Assign):
                value = inner.value
                fresh = isinstance(value, (ast.List, ast.Dict, ast.ListComp, ast.DictComp)) or (
                    isinstance(value, ast.Call) and getattr(value.func, "id", None) in ("list", "dict", "sorted")
                )
                for target in inner.targets:
                    for name in targets_of(target):
                        (found if fresh else other).add(name)
        return found - other


def faults_of(folder):
    """Return the faults of the package in this folder."""
    return Package(folder).look()


if __name__ == "__main__":
    here = os.path.dirname(os.path.dirname(os.path.abspath(__file__)))
    for line in faults_of(os.path.join(here, "manysights")):
        print(line)

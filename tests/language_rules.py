"""Finds code that is outside of the Python subset of the package (see ../shared/LANGUAGE.md)."""

import ast
import builtins
import re
import tokenize
from pathlib import Path

PACKAGE = Path(__file__).resolve().parent.parent / "cursorhouse"
USED_BUILTINS = set(
    "len range enumerate zip min max sum abs sorted reversed int str bool bytes list tuple dict isinstance ord repr "
    "any all divmod iter next super Exception ValueError TypeError KeyError IndexError LookupError "
    "ZeroDivisionError property staticmethod classmethod".split()
)
VALUE_METHODS = set(
    "append clear copy count endswith extend find get index insert isalnum isalpha isdigit islower isspace isupper "
    "items join keys ljust lower lstrip partition pop remove replace reverse rfind rjust rpartition rsplit rstrip "
    "setdefault split splitlines startswith strip update upper values zfill bit_length".split()
)
BUILTIN_ATTRIBUTES = set()
for _value in ("", 0, [], {}, set(), b""):
    BUILTIN_ATTRIBUTES |= {name for name in dir(_value) if not name.startswith("__")}
LENT_METHOD_NAMES = VALUE_METHODS | {"add", "discard"}
LENT_ATTRIBUTE_NAMES = set("count index title find get join lower upper split strip copy add".split())
DOUBLE_UNDERSCORED = {"__init__", "__eq__", "__len__", "__repr__", "__str__", "__enter__", "__exit__", "__call__"}
NEVER_NAMES = set("register mro elements open input law version_info with_traceback add_note".split())
NO_VARIABLES = set(
    "attrgetter breakpoint builtins compile copyright credits delattr dir eval exec exit gc getattr globals hasattr "
    "help id importlib license locals methodcaller os quit setattr super type vars sys".split()
)
BARRED_WORDS = (
    r"\b(typing|typing_extensions|enum|Enum|IntEnum|StrEnum|Flag|IntFlag|Generic|Protocol|ABC|ABCMeta|namedtuple|"
    r"NamedTuple|TypedDict|TYPE_CHECKING|abstractmethod)\b|dataclass|overload|contextmanager|_wall|_WallAttr"
)
ON_THE_SPOT = {"zip", "enumerate", "reversed", "range"}
SPOT_CALLS = {"list", "tuple", "dict", "sorted", "sum", "any", "all", "enumerate", "zip", "min", "max", "reversed"}
BANNED_NODES = (
    ast.Global, ast.AsyncFunctionDef, ast.AsyncFor, ast.AsyncWith, ast.Await, ast.Yield, ast.YieldFrom,
    ast.GeneratorExp, ast.Set, ast.SetComp, ast.Div, ast.MatMult, ast.With, ast.Match, ast.AnnAssign, ast.Nonlocal,
)
KEYWORDS_OF_BUILTINS = {
    "sorted": {"key", "reverse"}, "min": {"key", "default"}, "max": {"key", "default"}, "sum": {"start"},
    "enumerate": {"start"}, "zip": {"strict"},
}
CAUGHT_FREELY = {"KeyError", "ZeroDivisionError"}


class Module:
    """A parsed file of the package."""

    def __init__(self, path):
        self.path = path
        self.text = path.read_text(encoding="utf-8")
        self.tree = ast.parse(self.text)
        self.name = path.stem
        for node in ast.walk(self.tree):
            for child in ast.iter_child_nodes(node):
                child.parent = node
        self.imports = {}
        for node in self.tree.body:
            if isinstance(node, ast.ImportFrom):
                for alias in node.names:
                    self.imports[alias.asname or alias.name] = (node.module, alias.name)
        self.classes = {node.name: node for node in self.tree.body if isinstance(node, ast.ClassDef)}
        self.functions = {node.name: node for node in self.tree.body if isinstance(node, ast.FunctionDef)}


def modules():
    return [Module(path) for path in sorted(PACKAGE.glob("*.py"))]


def violations():
    """Return the list of what is found, each with its place."""
    package = modules()
    found = [(PACKAGE / path.name, 0, "no file of the package") for path in PACKAGE.iterdir()
             if path.suffix != ".py" and path.name != "__pycache__"]
    classes = {name for module in package for name in module.classes}
    methods = own_methods(package)
    attributes = own_attributes(package)
    for module in package:
        for check in (file_form, module_level, import_forms, function_forms, plain_nodes, names_used, class_uses):
            found += [(module.path, line, what) for line, what in check(module, classes)]
        found += [(module.path, line, what) for line, what in attribute_uses(module, methods, attributes)]
    found += [(PACKAGE, 0, what) for what in circles(package)]
    for name in sorted(set(methods) & set(attributes)):
        found.append((PACKAGE, 0, f"{name} is a method and an attribute"))
    return [f"{path.name}:{line}: {what}" for path, line, what in found]


def own_methods(package):
    return {item.name for module in package for node in module.classes.values()
            for item in node.body if isinstance(item, ast.FunctionDef)}


def own_attributes(package):
    found = set()
    for module in package:
        for node in ast.walk(module.tree):
            if isinstance(node, ast.Attribute) and isinstance(node.ctx, ast.Store):
                found.add(node.attr)
        for node in module.classes.values():
            for item in node.body:
                if isinstance(item, ast.Assign):
                    found.add(item.targets[0].id)
    return found


def file_form(module, classes):
    lines = module.text.split("\n")
    if len(lines) > 400:
        yield len(lines), "more than 399 lines"
    for at, line in enumerate(lines, 1):
        if len(line) > 120:
            yield at, "a line of more than 120 characters"
        if any(not " " <= letter <= "~" for letter in line):
            yield at, "a character that is not allowed"
        if line.count("lambda") > 1:
            yield at, "two lambdas on a line"
    with open(module.path, "rb") as file:
        for token in tokenize.tokenize(file.readline):
            if token.type == tokenize.STRING or token.type == getattr(tokenize, "FSTRING_MIDDLE", -1):
                if "%" in token.string or re.search(r"\\[^nt\\'\"]", token.string):
                    yield token.start[0], "a sign or an escape in a string"
                if re.search(BARRED_WORDS, token.string) or re.search(r"\._+[\"']", token.string):
                    yield token.start[0], "a barred word in a string"
                if re.fullmatch(r"[\"']__.*__[\"']", token.string):
                    yield token.start[0], "a string between two underscores"
            if token.type == tokenize.NAME and re.fullmatch(BARRED_WORDS, token.string):
                yield token.start[0], "a barred word"


def is_plain(node, functions):
    if isinstance(node, ast.Constant):
        return not isinstance(node.value, (float, complex))
    if isinstance(node, ast.UnaryOp):
        return isinstance(node.op, ast.USub) and is_plain(node.operand, functions)
    if isinstance(node, (ast.Tuple, ast.List)):
        return all(is_plain(item, functions) and not isinstance(item, (ast.List, ast.Dict)) for item in node.elts)
    if isinstance(node, ast.Dict):
        return all(is_plain(item, functions) and not isinstance(item, (ast.List, ast.Dict))
                   for item in [*node.keys, *node.values])
    return isinstance(node, ast.Name) and node.id in functions


def module_level(module, classes):
    functions = set()
    bound = set(module.imports)
    for at, node in enumerate(module.tree.body):
        if isinstance(node, ast.Expr) and at == 0 and isinstance(node.value, ast.Constant):
            continue
        if isinstance(node, ast.ImportFrom):
            continue
        if isinstance(node, (ast.FunctionDef, ast.ClassDef)):
            names = [node.name]
            functions |= {node.name} if isinstance(node, ast.FunctionDef) else set()
        elif isinstance(node, ast.Assign) and len(node.targets) == 1 and isinstance(node.targets[0], ast.Name):
            names = [node.targets[0].id]
            if not is_plain(node.value, functions):
                yield node.lineno, "a value at module level that is not plain"
        else:
            yield node.lineno, "a statement at module level"
            continue
        for name in names:
            if name in bound:
                yield node.lineno, f"{name} is bound twice"
            bound.add(name)


def import_forms(module, classes):
    for node in ast.walk(module.tree):
        if isinstance(node, ast.Import):
            yield node.lineno, "an import of a module"
        if not isinstance(node, ast.ImportFrom):
            continue
        if node.level or not (node.module or "").startswith("cursorhouse."):
            yield node.lineno, "an import from outside"
            continue
        other = Module(PACKAGE / (node.module.split(".")[1] + ".py"))
        values = {item.targets[0].id for item in other.tree.body if isinstance(item, ast.Assign)}
        for alias in node.names:
            if alias.name not in {*other.classes, *other.functions, *values}:
                yield node.lineno, f"{alias.name} is not defined in {node.module}"
            uses = [use for use in ast.walk(module.tree) if isinstance(use, ast.Name) and use.id == alias.name]
            if not uses:
                yield node.lineno, f"{alias.name} is imported and not used"


def circles(package):
    edges = {module.name: {source.split(".")[1] for source, _ in module.imports.values()} for module in package}
    while edges:
        free = [name for name, others in edges.items() if not others & set(edges)]
        if not free:
            yield "modules import one another in a circle: " + ", ".join(sorted(edges))
            return
        for name in free:
            del edges[name]


def parameters(node):
    args = node.args
    extra = [arg for arg in (args.vararg, args.kwarg) if arg]
    return [arg.arg for arg in [*args.posonlyargs, *args.args, *args.kwonlyargs, *extra]]


def function_forms(module, classes):
    for node in ast.walk(module.tree):
        if isinstance(node, ast.FunctionDef):
            if node.end_lineno - node.lineno + 1 > 40:
                yield node.lineno, f"{node.name} has more than 40 lines"
            for decorator in node.decorator_list:
                if not (isinstance(decorator, ast.Name) and decorator.id == "property"):
                    yield node.lineno, "a decorator"
            if node.name.startswith("__") and node.name not in DOUBLE_UNDERSCORED:
                yield node.lineno, f"a method {node.name}"
            if node.name == "__init__":
                for part in ast.walk(node):
                    if isinstance(part, ast.Return):
                        yield part.lineno, "a return in __init__"
            defaults = [*node.args.defaults, *[item for item in node.args.kw_defaults if item is not None]]
            names = {name for name in [*module.imports, *[item.targets[0].id for item in module.tree.body
                                                          if isinstance(item, ast.Assign)]]}
            for default in defaults:
                if not is_plain(default, names):
                    yield node.lineno, "a default value that is not plain"
        if isinstance(node, ast.ClassDef):
            if not isinstance(node.parent, ast.Module) or node.decorator_list or node.keywords:
                yield node.lineno, "a class that is not plain"
            names = [item.name for item in node.body if isinstance(item, ast.FunctionDef)]
            for name in names:
                if names.count(name) > 1:
                    yield node.lineno, f"{name} is defined twice"


def plain_nodes(module, classes):
    for node in ast.walk(module.tree):
        line = getattr(node, "lineno", 0)
        if isinstance(node, BANNED_NODES):
            yield line, f"a {node.__class__.__name__}"
        if isinstance(node, ast.Constant) and isinstance(node.value, (float, complex)):
            yield line, "a float"
        if isinstance(node, ast.Compare):
            sides = [node.left, *node.comparators]
            for op, side in zip(node.ops, sides[1:]):
                if isinstance(op, (ast.Is, ast.IsNot)):
                    if not (isinstance(side, ast.Constant) and side.value in (None, True, False)):
                        yield line, "`is` with something else than None, True and False"
        if isinstance(node, ast.ExceptHandler):
            yield from handler_forms(node, module)
        if isinstance(node, ast.Raise):
            plain = node.exc is None or (isinstance(node.exc, ast.Call) and isinstance(node.exc.func, ast.Name))
            if not plain:
                yield line, "a raise of something else than a new error"
        if isinstance(node, ast.Try):
            yield from finally_forms(node)
        if isinstance(node, ast.Starred) and not isinstance(node.value, (ast.Name, ast.Attribute)):
            yield line, "a star before something else than a name"
        if isinstance(node, ast.Lambda) and node.args.defaults:
            yield line, "a lambda with default values"
        if isinstance(node, ast.Assign) and len(node.targets) > 1:
            yield line, "several targets"


def handler_forms(node, module):
    kinds = node.type.elts if isinstance(node.type, ast.Tuple) else [node.type]
    for kind in kinds:
        own = isinstance(kind, ast.Name) and (kind.id in module.imports or kind.id in module.classes)
        if not own and not (isinstance(kind, ast.Name) and kind.id in CAUGHT_FREELY):
            yield node.lineno, "an error that is not caught"


def is_simple(node):
    if isinstance(node, ast.Attribute):
        return is_simple(node.value)
    return isinstance(node, (ast.Name, ast.Constant))


def finally_forms(node):
    for part in node.finalbody:
        plain = isinstance(part, ast.Assign) and is_simple(part.targets[0]) and is_simple(part.value)
        added = isinstance(part, ast.AugAssign) and isinstance(part.op, ast.Add) and is_simple(part.value)
        if not plain and not added:
            yield part.lineno, "a statement in a finally"


def variable_names(node):
    for part in ast.walk(node):
        if isinstance(part, ast.Name) and isinstance(part.ctx, ast.Store):
            yield part.lineno, part.id
        if isinstance(part, ast.ExceptHandler) and part.name:
            yield part.lineno, part.name
        if isinstance(part, (ast.FunctionDef, ast.Lambda)):
            for name in parameters(part):
                yield part.lineno, name
            if isinstance(part, ast.FunctionDef) and part is not node:
                yield part.lineno, part.name


def names_used(module, classes):
    top = {*module.classes, *module.functions, *module.imports,
           *[item.targets[0].id for item in module.tree.body if isinstance(item, ast.Assign)]}
    for name in top:
        if hasattr(builtins, name) or name in NEVER_NAMES | NO_VARIABLES:
            yield 0, f"{name} is the name of something else"
    functions = [node for node in ast.walk(module.tree) if isinstance(node, ast.FunctionDef)]
    for function in functions:
        for line, name in variable_names(function):
            if hasattr(builtins, name) or name in NEVER_NAMES | NO_VARIABLES:
                yield line, f"{name} is the name of something else"
            if name in module.classes or name in module.imports or name in module.functions:
                yield line, f"{name} is a class, a function or an import of this file"
    for node in ast.walk(module.tree):
        if isinstance(node, ast.Name) and isinstance(node.ctx, ast.Load):
            if node.id == "_" or (hasattr(builtins, node.id) and node.id not in USED_BUILTINS):
                yield node.lineno, f"{node.id} is used"
            is_called = isinstance(node.parent, ast.Call) and node.parent.func is node
            if is_called and node.id in KEYWORDS_OF_BUILTINS or is_called and hasattr(builtins, node.id):
                for keyword in node.parent.keywords:
                    if keyword.arg not in KEYWORDS_OF_BUILTINS.get(node.id, set()):
                        yield node.lineno, f"{node.id} with {keyword.arg}"
            if node.id in ON_THE_SPOT and is_called and not is_iterated(node.parent):
                yield node.lineno, f"{node.id} is not iterated on the spot"


def is_iterated(call):
    parent = call.parent
    if isinstance(parent, (ast.For, ast.comprehension)):
        return parent.iter is call
    if isinstance(parent, ast.Call) and isinstance(parent.func, ast.Name):
        return parent.func.id in SPOT_CALLS
    # Of these only the keys of a dict and a range may stand behind `in` elsewhere.
    name = getattr(call.func, "id", getattr(call.func, "attr", ""))
    return isinstance(parent, ast.Compare) and name in ("keys", "range")


def class_uses(module, classes):
    for node in ast.walk(module.tree):
        if not (isinstance(node, ast.Name) and node.id in classes and isinstance(node.ctx, ast.Load)):
            continue
        parent = node.parent
        if isinstance(parent, ast.Tuple):
            parent = parent.parent
        called = isinstance(parent, ast.Call) and (parent.func is node or getattr(parent.func, "id", "") == "isinstance")
        if not called and not isinstance(parent, (ast.ClassDef, ast.ExceptHandler, ast.Raise)):
            yield node.lineno, f"the class {node.id} is used as a value"


def attribute_uses(module, methods, attributes):
    for node in ast.walk(module.tree):
        if not isinstance(node, ast.Attribute):
            continue
        name = node.attr
        if isinstance(node.ctx, ast.Store):
            base = node.value
            if not isinstance(base, ast.Name):
                yield node.lineno, f"{name} is assigned through something else than a name"
            if name in NEVER_NAMES or (name in BUILTIN_ATTRIBUTES and name not in LENT_ATTRIBUTE_NAMES):
                yield node.lineno, f"{name} is a name of builtin values"
            continue
        is_called = isinstance(node.parent, ast.Call) and node.parent.func is node
        if is_called and name not in methods | attributes | VALUE_METHODS and name != "__init__":
            yield node.lineno, f"{name} is called and is no method"
        if is_called and name in VALUE_METHODS and node.parent.keywords:
            yield node.lineno, f"{name} with keywords"
        if not is_called and name not in attributes | methods:
            yield node.lineno, f"{name} is read and never assigned"
        if not is_called and name in methods and name not in attributes and not is_property(module, name):
            yield node.lineno, f"the method {name} is not called"
        if is_called and name in ("items", "keys", "values") and not is_iterated(node.parent):
            yield node.lineno, f"{name} is not iterated on the spot"
    for name in methods:
        if name in NEVER_NAMES | NO_VARIABLES or (name in BUILTIN_ATTRIBUTES and name not in LENT_METHOD_NAMES):
            yield 0, f"a method {name}"


def is_property(module, name):
    for node in ast.walk(module.tree):
        if isinstance(node, ast.FunctionDef) and node.name == name:
            return bool(node.decorator_list)
    return False


if __name__ == "__main__":
    for line in violations():
        print(line)

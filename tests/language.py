"""Finds what breaks ../shared/LANGUAGE.md, as far as the shape of the code shows it.

It is narrower than the rules in places: what the package has no need of is not let through.
"""

import ast
import builtins
import keyword
import re

# A doctest that runs ahead leaves a name "_" among them.
OF_PYTHON = frozenset(dir(builtins)) - {"_"}
ERRORS = {
    "Exception", "ValueError", "TypeError", "KeyError", "IndexError", "LookupError", "ZeroDivisionError",
    "ArithmeticError", "OverflowError", "RuntimeError", "NotImplementedError"}
BUILTINS = {
    "len", "range", "enumerate", "zip", "min", "max", "sum", "abs", "sorted", "reversed", "int", "str", "bool", "list",
    "tuple", "dict", "set", "isinstance", "ord", "repr", "any", "all", "divmod"} | ERRORS
LIBRARY = {
    "heapq": {"heappush", "heappop", "heapify", "heapreplace", "heappushpop"},
    "math": {"gcd", "lcm", "isqrt", "comb", "perm", "factorial"}}
METHODS = set(
    "append clear copy count endswith extend find get index insert isalnum isalpha isdigit islower isspace isupper "
    "items join keys ljust lower lstrip partition pop remove replace reverse rfind rjust rpartition rsplit rstrip "
    "setdefault split splitlines startswith strip update upper values zfill bit_length isascii add discard __init__".split())
KEYWORDS = {"sorted": {"key", "reverse"}, "min": {"key", "default"}, "max": {"key", "default"}, "sum": {"start"},
            "enumerate": {"start"}, "zip": {"strict"}}
BARRED_NAMES = set(
    "register mro elements open input law version_info with_traceback add_note attrgetter breakpoint builtins compile "
    "copyright credits delattr dir eval exec exit gc getattr globals hasattr help id importlib license locals "
    "methodcaller os quit setattr super type vars sys".split())
BARRED_STARTS = (
    "_wall", "_pe_", "_dcw_", "_enum_", "_cm_", "_twin_re_", "_lay_", "_law_", "_stub_", "_sre", "_WallAttr", "_cold",
    "_tuplegetter", "_outside", "_record", "_written_out", "_member_names", "f_", "tb_", "co_")
BARRED_WORDS = re.compile(
    r"\b(type|typing|typing_extensions|enum|Enum|IntEnum|StrEnum|Flag|IntFlag|Generic|Protocol|ABC|ABCMeta|namedtuple"
    r"|NamedTuple|TypedDict|TYPE_CHECKING|abstractmethod)\b|dataclass|overload|contextmanager|_wall|_WallAttr")
ITERATED = {"zip", "enumerate", "reversed", "range"}
VIEWS = {"items", "keys", "values"}
TAKERS = {"list", "tuple", "dict", "sorted", "sum", "any", "all", "enumerate", "zip", "min", "max"}
STATEMENTS = (
    ast.Assign, ast.AugAssign, ast.If, ast.While, ast.For, ast.Return, ast.Break, ast.Continue, ast.Pass, ast.Raise,
    ast.Assert, ast.Delete, ast.Try, ast.Expr, ast.FunctionDef, ast.ClassDef, ast.ImportFrom)
EXPRESSIONS = (
    ast.BoolOp, ast.BinOp, ast.UnaryOp, ast.Lambda, ast.IfExp, ast.Dict, ast.Set, ast.ListComp, ast.SetComp,
    ast.DictComp, ast.GeneratorExp, ast.Compare, ast.Call, ast.FormattedValue, ast.JoinedStr, ast.Constant,
    ast.Attribute, ast.Subscript, ast.Starred, ast.Name, ast.List, ast.Tuple, ast.Slice)


def in_file(name, text, package):
    """The list of what breaks a rule in the file of this name and text; package has the texts of all files."""
    found = _sizes(text) + _characters(name, text)
    tree = ast.parse(text)
    for node in ast.walk(tree):
        for child in ast.iter_child_nodes(node):
            child.above = node
    found += _module_level(tree) + _imports(name, tree, package) + _scopes(tree) + _classes(tree)
    own = own_names([*package.values(), text])
    for node in ast.walk(tree):
        if isinstance(node, ast.stmt):
            found += _statement(node)
        elif isinstance(node, ast.expr):
            found += _expression(node, own)
    return [f"{name}: {told}" for told in found]


def own_names(texts):
    """The sets of the attributes and of the methods of the classes in texts."""
    attributes, methods = set(), set()
    for node in [node for text in texts for node in ast.walk(ast.parse(text)) if isinstance(node, ast.ClassDef)]:
        methods |= {part.name for part in node.body if isinstance(part, ast.FunctionDef)}
        for part in ast.walk(node):
            if isinstance(part, ast.Attribute) and isinstance(part.ctx, ast.Store):
                attributes.add(part.attr)
    return attributes, methods


def _classes(tree):
    """What breaks a rule in the names of the methods and attributes of a file, and in where its classes stand."""
    attributes, methods = own_names([ast.unparse(tree)])
    found = [f"L18 {name} is a method and an attribute" for name in sorted(attributes & methods)]
    found += [f"L26 {name} is of Python" for name in sorted((attributes | methods) & (METHODS - {"__init__"}))]
    found += [told for name in sorted(attributes | methods - {"__init__"}) for told in _name(name, 0)]
    for node in ast.walk(tree):
        if isinstance(node, ast.ClassDef) and node not in tree.body:
            found.append(f"L15 line {node.lineno}")
        if isinstance(node, ast.Attribute) and isinstance(node.ctx, ast.Store) and not isinstance(node.value, ast.Name):
            found.append(f"L18 line {node.lineno}")
    return found


def _sizes(text):
    lines = text.split("\n")
    found = [f"L10 line {number} is too long" for number, line in enumerate(lines, 1) if len(line) > 120]
    if len(lines) > 399:
        found.append("L10 the file is too long")
    for node in ast.walk(ast.parse(text)):
        if isinstance(node, ast.FunctionDef) and node.end_lineno - node.lineno + 1 > 40:
            found.append(f"L10 {node.name} is too long")
    return found


def _characters(name, text):
    found = []
    if re.search(r"[^\n -~]", text):
        found.append("L14 a character")
    if not re.fullmatch(r"[a-z_][a-z0-9_]*\.py", name) or name[:-3] in OF_PYTHON:
        found.append("L14 the name of the file")
    if re.match(r"law_|tests?\.py|testing|test_|site|conftest|sitecustomize|usercustomize", name):
        found.append("L14 the name of the file")
    return found


def _module_level(tree):
    found = []
    for place, node in enumerate(tree.body):
        if isinstance(node, ast.Expr):
            if place or not isinstance(node.value, ast.Constant):
                found.append(f"L3 line {node.lineno}")
        elif isinstance(node, ast.Assign):
            if len(node.targets) != 1 or not isinstance(node.targets[0], ast.Name):
                found.append(f"L3 line {node.lineno}")
            if any(isinstance(part, (ast.Call, ast.ListComp, ast.Set, ast.Name)) for part in ast.walk(node.value)):
                found.append(f"L3 line {node.lineno}")
        elif not isinstance(node, (ast.ImportFrom, ast.FunctionDef, ast.ClassDef)):
            found.append(f"L3 line {node.lineno}")
    ahead = True
    for node in tree.body:
        if isinstance(node, ast.ImportFrom) and not ahead:
            found.append(f"L2 line {node.lineno}")
        ahead = ahead and isinstance(node, (ast.Expr, ast.ImportFrom))
    return found


def top_names(tree):
    """The names that a file binds by def, class or assignment at module level, in order."""
    names = []
    for node in tree.body:
        if isinstance(node, (ast.FunctionDef, ast.ClassDef)):
            names.append(node.name)
        elif isinstance(node, ast.Assign):
            names.extend(target.id for target in node.targets if isinstance(target, ast.Name))
    return names


def imported(tree):
    """The pairs (module, name) that a file imports; a leading dot stands ahead of the module."""
    nodes = [node for node in ast.walk(tree) if isinstance(node, ast.ImportFrom)]
    return [("." * node.level + (node.module or ""), own.name) for node in nodes for own in node.names]


def _imports(name, tree, package):
    found = []
    for node in ast.walk(tree):
        if isinstance(node, ast.Import):
            found.append(f"L2 line {node.lineno}")
        elif isinstance(node, ast.ImportFrom) and any(own.asname or own.name == "*" for own in node.names):
            found.append(f"L2 line {node.lineno}")
    for module, own in imported(tree):
        if module in LIBRARY:
            if own not in LIBRARY[module]:
                found.append(f"L2 {own} of {module}")
            continue
        file = module.removeprefix("unwound.") + ".py"
        if not module.startswith("unwound.") or file not in package:
            found.append(f"L2 {module}")
        elif own not in top_names(ast.parse(package[file])):
            found.append(f"L16 {own} is not defined in {file}")
    if name == "__init__.py" and imported(tree):
        found.append("L16 __init__.py imports")
    bound = top_names(tree) + [own for module, own in imported(tree)]
    found += [f"L15 {own} is bound twice" for own in sorted(set(bound)) if bound.count(own) > 1]
    return found


def import_rings(package):
    """The files that import themselves, directly or through others."""
    nexts = {}
    for name, text in package.items():
        modules = [module for module, own in imported(ast.parse(text))]
        nexts[name] = {module.removeprefix("unwound.") + ".py" for module in modules if module.startswith("unwound.")}
    for _ in nexts:
        nexts = {name: after.union(*[nexts.get(other, set()) for other in after]) for name, after in nexts.items()}
    return sorted(name for name, after in nexts.items() if name in after)


def _bound_here(function):
    """The names that a function or lambda binds: parameters, and targets within it."""
    args = function.args
    names = [own.arg for own in args.posonlyargs + args.args + args.kwonlyargs + [args.vararg, args.kwarg] if own]
    for node in ast.walk(function):
        if isinstance(node, ast.Name) and isinstance(node.ctx, (ast.Store, ast.Del)):
            names.append(node.id)
        elif isinstance(node, ast.FunctionDef) and node is not function:
            names.append(node.name)
        elif isinstance(node, ast.ExceptHandler) and node.name:
            names.append(node.name)
    return names


def _scopes(tree):
    found = []
    top = set(top_names(tree)) | {own for module, own in imported(tree)}
    for node in ast.walk(tree):
        if isinstance(node, (ast.FunctionDef, ast.Lambda)):
            for name in _bound_here(node):
                if name in top:
                    found.append(f"L15 line {node.lineno}: {name} means something else in this file")
                found += _name(name, node.lineno)
        if isinstance(node, (ast.FunctionDef, ast.ClassDef)) and not node.name.startswith("__"):
            found += _name(node.name, node.lineno)
        if isinstance(node, (ast.FunctionDef, ast.ClassDef)) and node.decorator_list:
            found.append(f"L4 line {node.lineno}")
        if isinstance(node, ast.FunctionDef) and node.name.startswith("__") and node.name != "__init__":
            found.append(f"L5 line {node.lineno}")
    for name in top:
        found += _name(name, 0)
    return found


def _name(name, line):
    if name in OF_PYTHON or name in BARRED_NAMES or keyword.issoftkeyword(name) and name != "_":
        return [f"L15, L17 line {line}: {name}"]
    if name.startswith("__") or name.startswith(BARRED_STARTS) or not name.isascii():
        return [f"L12 line {line}: {name}"]
    return []


def _statement(node):
    if not isinstance(node, STATEMENTS):
        return [f"L6 line {node.lineno}"]
    if isinstance(node, ast.Expr) and not isinstance(node.value, (ast.Call, ast.Constant)):
        return [f"L6 line {node.lineno}"]
    if isinstance(node, ast.Raise) and node.exc is not None and not isinstance(node.exc, ast.Call):
        return [f"L19 line {node.lineno}"]
    if isinstance(node, ast.Try):
        if node.finalbody or any(not isinstance(own.type, ast.Name) for own in node.handlers):
            return [f"L19 line {node.lineno}"]
        if any(own.type.id in OF_PYTHON and own.type.id not in ("KeyError",) for own in node.handlers):
            return [f"L19 line {node.lineno}"]
    if isinstance(node, ast.FunctionDef) and node.args.defaults:
        return [] if all(isinstance(own, ast.Constant) for own in node.args.defaults) else [f"L4 line {node.lineno}"]
    if isinstance(node, ast.For) and any(isinstance(own, ast.Attribute) for own in ast.walk(node.target)):
        return [f"L23 line {node.lineno}"]
    if isinstance(node, ast.For):
        return _changed_in_loop(node)
    return []


def _changed_in_loop(node):
    """What a for goes over and its rows change, by its name."""
    names = {own.id for own in ast.walk(node.iter) if isinstance(own, ast.Name) and isinstance(own.above, (ast.For, ast.Call))}
    found = []
    for own in ast.walk(node):
        changed = None
        if isinstance(own, ast.Call) and isinstance(own.func, ast.Attribute) and own.func.attr in (
                "append", "extend", "pop", "insert", "remove", "clear", "update", "setdefault", "reverse", "sort"):
            changed = own.func.value
        elif isinstance(own, ast.Subscript) and isinstance(own.ctx, (ast.Store, ast.Del)):
            changed = own.value
        if isinstance(changed, ast.Name) and changed.id in names:
            found.append(f"L23 line {own.lineno}: {changed.id}")
    return found


def _expression(node, own):
    if not isinstance(node, EXPRESSIONS):
        return [f"L7 line {node.lineno}"]
    if isinstance(node, ast.Constant):
        return _constant(node)
    if isinstance(node, ast.BinOp) and isinstance(node.op, (ast.Div, ast.Pow, ast.MatMult)):
        return [f"L7, L27 line {node.lineno}"]
    if isinstance(node, ast.Compare):
        return _comparison(node)
    if isinstance(node, ast.GeneratorExp):
        return _in_call(node, {"list", "tuple", "dict", "sorted", "sum", "min", "max", "any", "all"}, "L7")
    if isinstance(node, (ast.Set, ast.SetComp)):
        return _set_place(node)
    if isinstance(node, ast.Name):
        return _name_read(node)
    if isinstance(node, ast.Attribute):
        return _attribute(node, own)
    if isinstance(node, ast.Call):
        return _call(node)
    return []


def _constant(node):
    if isinstance(node.value, (float, complex, bytes)) or node.value is Ellipsis:
        return [f"L7 line {node.lineno}"]
    if isinstance(node.value, str) and not _is_docstring(node):
        if "%" in node.value or BARRED_WORDS.search(node.value) or node.value.endswith(("._", ".__")):
            return [f"L17, L27 line {node.lineno}"]
    return [f"L27 line {node.lineno}"] if isinstance(node.value, str) and "%" in node.value else []


def _is_docstring(node):
    return isinstance(node.above, ast.Expr)


def _comparison(node):
    sides = [node.left] + node.comparators
    for op, right in zip(node.ops, sides[1:]):
        if isinstance(op, (ast.Is, ast.IsNot)):
            if not isinstance(right, ast.Constant) or right.value not in (None, True, False):
                return [f"L20 line {node.lineno}"]
    return []


def _in_call(node, takers, rule):
    above = node.above
    if isinstance(above, ast.Call) and isinstance(above.func, ast.Name) and above.func.id in takers:
        return []
    return [f"{rule} line {node.lineno}"]


def _set_place(node):
    """A set stands in sorted or len, behind in, or is given to a name that is assigned nothing else."""
    above = node.above
    if isinstance(above, ast.Call) and isinstance(above.func, ast.Name) and above.func.id in ("sorted", "len"):
        return [] if node is above.args[0] else [f"L24 line {node.lineno}"]
    if isinstance(above, ast.Compare) and node in above.comparators:
        return []
    if isinstance(above, ast.Assign) and isinstance(above.targets[0], ast.Name):
        return _stored_set(above)
    return [f"L24 line {node.lineno}"]


def _stored_set(assign):
    function = assign
    while not isinstance(function, ast.FunctionDef):
        function = function.above
    name, found = assign.targets[0].id, []
    for node in ast.walk(function):
        if isinstance(node, ast.Name) and node.id == name and node is not assign.targets[0]:
            above = node.above
            used = isinstance(above, ast.Attribute) and above.attr in ("add", "discard")
            used = used or isinstance(above, ast.Compare) and node in above.comparators
            used = used or isinstance(above, ast.Call) and getattr(above.func, "id", "") in ("len", "sorted")
            if not used or isinstance(node.ctx, ast.Store):
                found.append(f"L24 line {node.lineno}")
    return found


def _name_read(node):
    if not isinstance(node.ctx, ast.Load) or node.id not in OF_PYTHON:
        return []
    if node.id not in BUILTINS:
        return [f"L8 line {node.lineno}: {node.id}"]
    above = node.above
    if isinstance(above, ast.Call) and (node is above.func or above.func.id == "isinstance"):
        return []
    if isinstance(above, ast.Tuple) and isinstance(above.above, ast.Call) and above.above.func.id == "isinstance":
        return []
    if node.id in ERRORS and isinstance(above, (ast.ClassDef, ast.Attribute)):
        return []
    if isinstance(above, ast.keyword) and above.arg == "key" and node.id in ("len", "sum", "min", "max", "abs"):
        return []
    return [f"L22 line {node.lineno}: {node.id}"]


def _attribute(node, own):
    if node.attr in BARRED_NAMES or node.attr.startswith("__") and node.attr != "__init__":
        return [f"L17 line {node.lineno}: {node.attr}"]
    called = isinstance(node.above, ast.Call) and node is node.above.func
    attributes, methods = own
    if called and node.attr not in METHODS | methods | attributes or not called and node.attr not in attributes:
        return [f"L25, L26 line {node.lineno}: {node.attr}"]
    return []


def _call(node):
    found = []
    if isinstance(node.func, ast.Attribute) and node.keywords:
        found.append(f"L25 line {node.lineno}")
    name = node.func.id if isinstance(node.func, ast.Name) else ""
    if name in BUILTINS and any(own.arg not in KEYWORDS.get(name, ()) for own in node.keywords):
        found.append(f"L22 line {node.lineno}")
    if name in ITERATED or getattr(node.func, "attr", "") in VIEWS:
        above = node.above
        looped = isinstance(above, (ast.For, ast.comprehension)) and node is above.iter
        backwards = name == "range" and isinstance(above, ast.Call) and getattr(above.func, "id", "") == "reversed"
        if not looped and not backwards:
            found += _in_call(node, TAKERS, "L23")
    if name == "set":
        found += _set_place(node)
    return found

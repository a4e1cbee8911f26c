"""Holds a package's files against the rules of LANGUAGE.md, as far as their words alone show them."""

import ast
import builtins
import re

NODES = (
    "Module Import ImportFrom alias FunctionDef arguments arg Lambda ClassDef Assign AugAssign If While For "
    "Return Break Continue Pass Raise Try ExceptHandler Expr Constant List Tuple Dict Set BinOp Add Sub Mult "
    "FloorDiv Mod Pow BitAnd BitOr BitXor LShift RShift UnaryOp USub UAdd Invert Not BoolOp And Or Compare Eq "
    "NotEq Lt LtE Gt GtE In NotIn Is IsNot IfExp Call keyword Attribute Subscript Slice ListComp comprehension "
    "JoinedStr FormattedValue Name Load Store"
).split()
BUILTINS = (
    "len range enumerate zip min max sum abs sorted reversed int str bool list tuple dict set frozenset "
    "isinstance ord repr any all divmod Exception ValueError TypeError KeyError IndexError LookupError "
    "ZeroDivisionError ArithmeticError OverflowError RuntimeError NotImplementedError AttributeError "
    "StopIteration"
).split()
METHODS = (
    "append clear copy count endswith extend find get index insert isalnum isalpha isdigit islower isspace "
    "isupper items join keys ljust lower lstrip partition pop remove replace reverse rfind rjust rpartition "
    "rsplit rstrip setdefault split splitlines startswith strip update upper values zfill bit_length"
).split()
CHANGING = "append clear extend insert pop remove reverse setdefault update".split()
WALKED = "zip enumerate reversed range".split()
WALKERS = "list tuple dict sorted sum any all enumerate zip min max".split()
NEVER = (
    "register mro elements open input version_info with_traceback add_note f_back tb_next co_names attrgetter "
    "breakpoint builtins compile copyright credits delattr dir eval exec exit gc getattr globals hasattr help id "
    "importlib license locals methodcaller os quit setattr super type vars sys chr format format_map print"
).split()
NEVER_WORDS = (
    "type typing typing_extensions enum Enum IntEnum StrEnum Flag IntFlag Generic Protocol ABC ABCMeta namedtuple "
    "NamedTuple TypedDict TYPE_CHECKING abstractmethod"
).split()
NEVER_WITHIN = ("dataclass", "overload", "contextmanager")
NEVER_FILES = ("test", "tests", "testing", "site", "conftest", "sitecustomize", "usercustomize")
PLAIN = re.compile(r"[A-Za-z][A-Za-z0-9_]*\Z")
OWN_KINDS = (str, int, list, dict, set, bytes, tuple)


def parents_of(tree):
    return {id(child): parent for parent in ast.walk(tree) for child in ast.iter_child_nodes(parent)}


def bound_names(tree):
    for node in ast.walk(tree):
        if isinstance(node, (ast.FunctionDef, ast.ClassDef)):
            yield node, node.name
        elif isinstance(node, ast.arg):
            yield node, node.arg
        elif isinstance(node, ast.Name) and isinstance(node.ctx, ast.Store):
            yield node, node.id
        elif isinstance(node, ast.Attribute):
            yield node, node.attr


def look_at_signs(file, text):
    stem = file.rpartition(".")[0]
    if not re.fullmatch(r"[a-z][a-z0-9_]*|__init__|__main__", stem) or not file.endswith(".py"):
        yield 1, "L1 L14 file name"
    if stem in NEVER_FILES or stem in NEVER_WORDS or stem.startswith("test_"):
        yield 1, "L14 file name"
    if hasattr(builtins, stem) and stem not in ("__init__", "__main__"):
        yield 1, "L14 file name"
    lines = text.split("\n")
    if len(lines) - 1 > 400 or lines[-1] != "":
        yield len(lines), "L10 file length"
    for number, line in enumerate(lines, start=1):
        if len(line) > 120:
            yield number, "L10 line length"
        if re.search(r"[^ -~]", line):
            yield number, "L10 L14 sign"
        if set(re.findall(r"\w+", line)) & set(NEVER_WORDS) or any(word in line for word in NEVER_WITHIN):
            yield number, "L17 word"


def look_at_imports(tree, package):
    for node in ast.walk(tree):
        if isinstance(node, ast.Import):
            yield node.lineno, "L16 import"
        if isinstance(node, ast.ImportFrom):
            if node not in tree.body or node.level or not (node.module or "").startswith(package + "."):
                yield node.lineno, "L2 import"
            if any(name.name == "*" or name.asname for name in node.names):
                yield node.lineno, "L2 import"


def is_plain(node, functions):
    if isinstance(node, ast.Constant):
        return node.value is None or isinstance(node.value, (int, str))
    if isinstance(node, ast.UnaryOp):
        return isinstance(node.op, ast.USub) and isinstance(node.operand, ast.Constant)
    if isinstance(node, (ast.List, ast.Tuple)):
        return all(is_plain(one, functions) for one in node.elts)
    if isinstance(node, ast.Dict):
        return all(is_plain(one, functions) for one in node.keys + node.values)
    return isinstance(node, ast.Name) and node.id in functions


def look_at_top(tree):
    bound = []
    functions = []
    for place, node in enumerate(tree.body):
        if isinstance(node, ast.Expr):
            if place or not isinstance(node.value, ast.Constant) or not isinstance(node.value.value, str):
                yield node.lineno, "L3 top"
        elif isinstance(node, ast.ImportFrom):
            bound += [name.name for name in node.names]
            if any(not isinstance(one, (ast.Expr, ast.ImportFrom)) for one in tree.body[:place]):
                yield node.lineno, "L2 import"
        elif isinstance(node, (ast.FunctionDef, ast.ClassDef)):
            bound.append(node.name)
            functions += [node.name] if isinstance(node, ast.FunctionDef) else []
        elif isinstance(node, ast.Assign) and isinstance(node.targets[0], ast.Name):
            bound.append(node.targets[0].id)
            if not is_plain(node.value, functions):
                yield node.lineno, "L3 top"
            if isinstance(node.value, (ast.List, ast.Dict)):
                within = node.value.elts if isinstance(node.value, ast.List) else node.value.values
                if any(isinstance(one, (ast.List, ast.Dict)) for part in within for one in ast.walk(part)):
                    yield node.lineno, "L15 top"
        else:
            yield node.lineno, "L3 top"
    if len(set(bound)) != len(bound):
        yield 1, "L15 bound twice"


def look_at_defs(tree):
    classes = [node.name for node in ast.walk(tree) if isinstance(node, ast.ClassDef)]
    imports = [name.name for node in tree.body if isinstance(node, ast.ImportFrom) for name in node.names]
    for node in ast.walk(tree):
        if isinstance(node, ast.FunctionDef):
            told = node.args
            if node.end_lineno - node.lineno + 1 > 40:
                yield node.lineno, "L10 function length"
            if told.vararg or told.kwarg or told.kwonlyargs or told.posonlyargs or node.decorator_list:
                yield node.lineno, "L4 function"
            if node.returns or any(one.annotation for one in told.args):
                yield node.lineno, "L21 annotation"
            for inner, name in bound_names(node):
                of_value = isinstance(inner, (ast.Attribute, ast.FunctionDef))
                if not of_value and (name in classes or name in imports or hasattr(builtins, name)):
                    yield inner.lineno, "L15 local name"
        if isinstance(node, ast.ClassDef):
            methods = [one.name for one in node.body if isinstance(one, ast.FunctionDef)]
            if node not in tree.body or node.decorator_list or len(node.bases) > 1 or node.keywords:
                yield node.lineno, "L5 class"
            if len(methods) != len(node.body) or len(set(methods)) != len(methods):
                yield node.lineno, "L5 L18 class body"


def look_at_names(tree):
    special = ("__init__", "__eq__", "__repr__", "__str__", "__len__", "__all__", "__version__")
    for node, name in bound_names(tree):
        if not PLAIN.match(name) and name not in special:
            yield node.lineno, "L12 name"
        if name in NEVER:
            yield node.lineno, "L17 name"
        if isinstance(node, (ast.FunctionDef, ast.ClassDef)) and node in tree.body and hasattr(builtins, name):
            yield node.lineno, "L8 name"
    for node in ast.walk(tree):
        if isinstance(node, ast.Name) and hasattr(builtins, node.id) and node.id not in BUILTINS:
            yield node.lineno, "L8 name"


def look_at_statements(tree):
    for node in ast.walk(tree):
        kind = node.__class__.__name__
        line = getattr(node, "lineno", 1)
        if kind not in NODES:
            yield line, "L6 L7 " + kind
        if isinstance(node, ast.Assign) and (len(node.targets) != 1 or isinstance(node.targets[0], ast.Tuple)):
            yield line, "L6 target"
        if isinstance(node, (ast.For, ast.While)) and node.orelse:
            yield line, "L6 else"
        if isinstance(node, ast.Try) and (node.finalbody or any(one.type is None for one in node.handlers)):
            yield line, "L6 L19 try"
        if isinstance(node, ast.ListComp) and (len(node.generators) != 1 or len(node.generators[0].ifs) > 1):
            yield line, "L7 comprehension"
        if isinstance(node, ast.Constant) and not (node.value is None or isinstance(node.value, (int, str))):
            yield line, "L7 value"
        if isinstance(node, ast.Constant) and isinstance(node.value, str) and "%" in node.value:
            yield line, "L27 text"
        if isinstance(node, ast.Compare) and any(isinstance(one, (ast.Is, ast.IsNot)) for one in node.ops):
            if not any(isinstance(one, ast.Constant) for one in node.comparators):
                yield line, "L20 is"
        if isinstance(node, ast.BinOp) and isinstance(node.op, ast.Pow) and not isinstance(node.right, ast.Constant):
            yield line, "L27 power"


def stands_well(node, parent):
    """Whether what is walked, or a set, stands where L23 and L24 have it."""
    of_set = node.func.id in ("set", "frozenset") if isinstance(node.func, ast.Name) else False
    if of_set:
        in_call = isinstance(parent, ast.Call) and getattr(parent.func, "id", "") in ("sorted", "len")
        return in_call or isinstance(parent, (ast.Compare, ast.BinOp))
    if isinstance(parent, (ast.For, ast.comprehension)):
        return parent.iter is node
    return isinstance(parent, ast.Call) and getattr(parent.func, "id", "") in WALKERS


def look_at_calls(tree, own_methods):
    parents = parents_of(tree)
    for node in ast.walk(tree):
        parent = parents.get(id(node))
        called = isinstance(parent, ast.Call) and parent.func is node
        if isinstance(node, ast.Attribute) and called and node.attr not in METHODS and node.attr not in own_methods:
            yield node.lineno, "L25 method"
        if isinstance(node, ast.Attribute) and not called and node.attr in own_methods:
            yield node.lineno, "L25 method handed on"
        if isinstance(node, ast.Name) and node.id in BUILTINS and not called and node.id in ("len", "sorted", *WALKED):
            yield node.lineno, "L22 kept"
        if isinstance(node, ast.Call):
            name = getattr(node.func, "id", getattr(node.func, "attr", ""))
            if name in (*WALKED, "set", "frozenset", "items", "keys", "values") and not stands_well(node, parent):
                yield node.lineno, "L23 L24 walked or kept"
        if isinstance(node, ast.For):
            walked = ast.dump(node.iter)
            for inner in ast.walk(node):
                if isinstance(inner, ast.Call) and isinstance(inner.func, ast.Attribute):
                    if inner.func.attr in CHANGING and ast.dump(inner.func.value) == walked:
                        yield inner.lineno, "L23 changed in its loop"


def look_at_attributes(trees):
    """L18 and L26, which speak of all files together."""
    methods, kept = set(), set()
    for tree in trees.values():
        for node in ast.walk(tree):
            if isinstance(node, ast.ClassDef):
                methods |= {one.name for one in node.body if isinstance(one, ast.FunctionDef)}
            if isinstance(node, ast.Attribute) and isinstance(node.ctx, ast.Store):
                kept.add(node.attr)
    for name in sorted(methods & kept):
        yield f"L18 {name}"
    free_values = "count index title find get join lower upper split strip copy add".split()
    for name in sorted(methods | kept):
        special = name.startswith("__")
        allowed = METHODS + ["add", "discard"] if name in methods else free_values
        if not special and any(hasattr(kind, name) for kind in OWN_KINDS) and name not in allowed:
            yield f"L26 {name}"


def look_at_circles(trees, package):
    drawn = {}
    defined = {}
    for file, tree in trees.items():
        module = package + "." + file.removesuffix(".py")
        drawn[module] = {node.module: node for node in tree.body if isinstance(node, ast.ImportFrom)}
        defined[module] = {node.name for node in tree.body if isinstance(node, (ast.FunctionDef, ast.ClassDef))}
        defined[module] |= {node.targets[0].id for node in tree.body if isinstance(node, ast.Assign)}
    for module, sources in drawn.items():
        for source, node in sources.items():
            if not {name.name for name in node.names} <= defined.get(source, set()):
                yield f"L16 {module} draws from {source} what it doesn't define"
        reached, waiting = set(), list(sources)
        while waiting:
            one = waiting.pop()
            if one not in reached:
                reached.add(one)
                waiting += drawn.get(one, {})
        if module in reached:
            yield f"L16 {module} draws from itself"


def faults(files, package):
    """What is wrong with these files (a dict from name to text), as lines to read."""
    trees = {file: ast.parse(text) for file, text in files.items()}
    own_methods = {node.name for tree in trees.values() for node in ast.walk(tree) if isinstance(node, ast.FunctionDef)}
    found = [] if "__init__.py" in files else ["L14 no __init__.py"]
    for file, tree in trees.items():
        looks = [look_at_signs(file, files[file]), look_at_imports(tree, package), look_at_calls(tree, own_methods)]
        looks += [look(tree) for look in (look_at_top, look_at_defs, look_at_names, look_at_statements)]
        found += [f"{file}:{line}: {rule}" for look in looks for line, rule in look]
    return found + list(look_at_attributes(trees)) + list(look_at_circles(trees, package))
